/-
  What is proved: what Good of the document makes of any request. No conditions but bounds.
-/
import Derived.Test.YthkbenhlhldglaaDoorZof
import Derived.Test.YthkbenhlhldglaaDoorZpa
import Derived.Test.YthkbenhlhldglaaDoorZpb
import Derived.Test.YthkbenhlhldglaaDoorZpc
import Derived.Test.YthkbenhlhldglaaDoorZpd
import Derived.Test.YthkbenhlhldglaaDoorZpe
import Derived.Test.YthkbenhlhldglaaDoorZpf
import Derived.Test.YthkbenhlhldglaaDoorZpg
import Derived.Test.YthkbenhlhldglaaDoorMh
import Derived.Test.YthkbenhlhldglaaDoorMi
namespace Go.Proofs.YthkbenhlhldglaaDoor
open Go.RowKit Go.Sort

/-- A request whose numbers are ints, whose bytes are bytes. -/
structure InQ (r : Rq) : Prop where
  op : I64 r.op
  id : I64 r.id
  a : I64 r.a
  b : I64 r.b
  x0 : I64 r.x0
  y0 : I64 r.y0
  x1 : I64 r.x1
  y1 : I64 r.y1
  s : r.s.size ≤ 9223372036854775807
  d : ByL r.d
def GoodQ (w : World) (r : Rq) (e : Ending) (w' : World) : Prop := ∃ d, e = .returned (vQ r d) ∧ Sv w' d r.d ∧ Bl w w'
set_option maxRecDepth 100000 in
set_option maxHeartbeats 2000000 in
theorem rgoodQ1 (r : Rq) (d : Value) (w : World) (hd : Sv w d r.d) (hi : InQ r) : Calls Tryd.prog 14 #[vQ r d] w (GoodQ w (goodQ r)) := by
  obtain ⟨A, c, rfl, hn, hle, hcm, hA⟩ := hd
  have hd : Sv w (.slice A r.d.length c) r.d := ⟨A, c, rfl, hn, hle, hcm, hA⟩
  obtain ⟨op, id, a, b, x0, y0, x1, y1, s, L⟩ := r
  obtain ⟨h1, h2, h3, h4, h5, h6, h7, h8, h9, h10⟩ := hi
  dsimp only at *
  have bo := around_bd op 19 (by omega)
  have bi := around_bd id 9 (by omega)
  have ca := fun V => around1 op 19 V h1 (by omega)
  have ci := fun V => around1 id 9 V h2 (by omega)
  have hc : around op 19 = 0 ∨ around op 19 = 1 ∨ around op 19 = 2 ∨ around op 19 = 3 ∨ around op 19 = 4 ∨ around op 19 = 5 ∨ around op 19 = 6 ∨ around op 19 = 7 ∨ around op 19 = 8 ∨ around op 19 = 9 ∨ around op 19 = 10 ∨ around op 19 = 11 ∨ around op 19 = 12 ∨ around op 19 = 13 ∨ around op 19 = 14 ∨ around op 19 = 15 ∨ around op 19 = 16 ∨ around op 19 = 17 ∨ around op 19 = 18 := by omega
  rcases hc with ho | ho | ho | ho | ho | ho | ho | ho | ho | ho | ho | ho | ho | ho | ho | ho | ho | ho | ho
  · have hg : goodQ ⟨op, id, a, b, x0, y0, x1, y1, s, L⟩ = ⟨0, 1 + around id 9, 1 + around a 16, 1 + around b 16, 0, 0, 0, 0, ⟨#[]⟩, []⟩ := by unfold goodQ goodI; dsimp only; rw [ho]; rfl
    rw [hg]
    rw [ho] at ca
    refine (rgood_0 op id a b x0 y0 x1 y1 s A L.length c w (around id 9) bi (around a 16) (around b 16) (around_bd a 16 (by omega)) (around_bd b 16 (by omega)) (fun V => around1 a 16 V h3 (by omega)) (fun V => around1 b 16 V h4 (by omega)) ca ci).mono ?_
    rintro e w' ⟨rfl, g⟩
    exact ⟨.slice none 0 0, rfl, Sv.nil _, g⟩
  · have hg : goodQ ⟨op, id, a, b, x0, y0, x1, y1, s, L⟩ = ⟨1, 1 + around id 9, 0, 0, 0, 0, 0, 0, ⟨#[]⟩, []⟩ := by unfold goodQ goodI; dsimp only; rw [ho]; rfl
    rw [hg]
    rw [ho] at ca
    refine (rgood_1 op id a b x0 y0 x1 y1 s A L.length c w (around id 9) bi  ca ci).mono ?_
    rintro e w' ⟨rfl, g⟩
    exact ⟨.slice none 0 0, rfl, Sv.nil _, g⟩
  · have hg : goodQ ⟨op, id, a, b, x0, y0, x1, y1, s, L⟩ = ⟨2, 1 + around id 9, 0, 0, around x0 8, around y0 8, around x0 8 + 1 + around x1 4, around y0 8 + 1 + around y1 4, ⟨#[]⟩, L.take 64⟩ := by unfold goodQ goodI; dsimp only; rw [ho]; rfl
    rw [hg]
    rw [ho] at ca
    have hAd : AdB A L := by
      rcases hA with h | ⟨b9, off, h, _⟩
      · exact .inl h
      · exact .inr ⟨b9, off, h⟩
    have hsv : Sv w (.slice A (L.take 64).length c) (L.take 64) := ⟨A, c, rfl, hn, by rw [List.length_take]; omega, hcm, by
      rcases hA with h | ⟨b9, off, h, hr⟩
      · left; rw [h]; rfl
      · exact .inr ⟨b9, off, h, hr.take 64⟩⟩
    refine (rgood_2 op id a b x0 y0 x1 y1 s A L.length c w (around id 9) bi (around x0 8) (around y0 8) (around x1 4) (around y1 4) (L.take 64).length (around_bd x0 8 (by omega)) (around_bd y0 8 (by omega)) (around_bd x1 4 (by omega)) (around_bd y1 4 (by omega)) (fun V => around1 x0 8 V h5 (by omega)) (fun V => around1 y0 8 V h6 (by omega)) (fun V => around1 x1 4 V h7 (by omega)) (fun V => around1 y1 4 V h8 (by omega)) (fun V g => fewB1 A c L 64 64 rfl V hAd hle hcm (by omega)) ca ci).mono ?_
    rintro e w' ⟨rfl, g⟩
    exact ⟨.slice A (L.take 64).length c, rfl, hsv.bl g, g⟩
  · have hg : goodQ ⟨op, id, a, b, x0, y0, x1, y1, s, L⟩ = ⟨3, 1 + around id 9, 0, 0, 0, 0, 0, 0, ⟨#[]⟩, []⟩ := by unfold goodQ goodI; dsimp only; rw [ho]; rfl
    rw [hg]
    rw [ho] at ca
    refine (rgood_3 op id a b x0 y0 x1 y1 s A L.length c w (around id 9) bi  ca ci).mono ?_
    rintro e w' ⟨rfl, g⟩
    exact ⟨.slice none 0 0, rfl, Sv.nil _, g⟩
  · have hg : goodQ ⟨op, id, a, b, x0, y0, x1, y1, s, L⟩ = ⟨4, 1 + around id 9, 0, 0, 0, 0, 0, 0, ⟨#[]⟩, []⟩ := by unfold goodQ goodI; dsimp only; rw [ho]; rfl
    rw [hg]
    rw [ho] at ca
    refine (rgood_4 op id a b x0 y0 x1 y1 s A L.length c w (around id 9) bi  ca ci).mono ?_
    rintro e w' ⟨rfl, g⟩
    exact ⟨.slice none 0 0, rfl, Sv.nil _, g⟩
  · have hg : goodQ ⟨op, id, a, b, x0, y0, x1, y1, s, L⟩ = ⟨5, 1 + around id 9, around a 10, 0, 0, 0, 0, 0, ⟨#[]⟩, []⟩ := by unfold goodQ goodI; dsimp only; rw [ho]; rfl
    rw [hg]
    rw [ho] at ca
    refine (rgood_5 op id a b x0 y0 x1 y1 s A L.length c w (around id 9) bi (around a 10) (fun V => around1 a 10 V h3 (by omega)) ca ci).mono ?_
    rintro e w' ⟨rfl, g⟩
    exact ⟨.slice none 0 0, rfl, Sv.nil _, g⟩
  · have hg : goodQ ⟨op, id, a, b, x0, y0, x1, y1, s, L⟩ = ⟨6, 1 + around id 9, 0, 0, (smallR x0 y0 x1 y1).a, (smallR x0 y0 x1 y1).b, (smallR x0 y0 x1 y1).c, (smallR x0 y0 x1 y1).d, ⟨#[]⟩, []⟩ := by unfold goodQ goodI; dsimp only; rw [ho]; rfl
    rw [hg]
    rw [ho] at ca
    refine (rgood_6 op id a b x0 y0 x1 y1 s A L.length c w (around id 9) bi (smallR x0 y0 x1 y1) (fun V => small1 x0 y0 x1 y1 V h5 h6 h7 h8) ca ci).mono ?_
    rintro e w' ⟨rfl, g⟩
    exact ⟨.slice none 0 0, rfl, Sv.nil _, g⟩
  · have hg : goodQ ⟨op, id, a, b, x0, y0, x1, y1, s, L⟩ = ⟨7, 1 + around id 9, around a 40 - 10, around b 40 - 10, 0, 0, 0, 0, ⟨#[]⟩, []⟩ := by unfold goodQ goodI; dsimp only; rw [ho]; rfl
    rw [hg]
    rw [ho] at ca
    refine (rgood_7 op id a b x0 y0 x1 y1 s A L.length c w (around id 9) bi (around a 40) (around b 40) (around_bd a 40 (by omega)) (around_bd b 40 (by omega)) (fun V => around1 a 40 V h3 (by omega)) (fun V => around1 b 40 V h4 (by omega)) ca ci).mono ?_
    rintro e w' ⟨rfl, g⟩
    exact ⟨.slice none 0 0, rfl, Sv.nil _, g⟩
  · have hg : goodQ ⟨op, id, a, b, x0, y0, x1, y1, s, L⟩ = ⟨8, 1 + around id 9, around a 10, 0, 0, 0, 0, 0, ⟨#[]⟩, []⟩ := by unfold goodQ goodI; dsimp only; rw [ho]; rfl
    rw [hg]
    rw [ho] at ca
    refine (rgood_8 op id a b x0 y0 x1 y1 s A L.length c w (around id 9) bi (around a 10) (fun V => around1 a 10 V h3 (by omega)) ca ci).mono ?_
    rintro e w' ⟨rfl, g⟩
    exact ⟨.slice none 0 0, rfl, Sv.nil _, g⟩
  · have hg : goodQ ⟨op, id, a, b, x0, y0, x1, y1, s, L⟩ = ⟨9, 1 + around id 9, 0, 0, 0, 0, 0, 0, ⟨#[]⟩, []⟩ := by unfold goodQ goodI; dsimp only; rw [ho]; rfl
    rw [hg]
    rw [ho] at ca
    refine (rgood_9 op id a b x0 y0 x1 y1 s A L.length c w (around id 9) bi  ca ci).mono ?_
    rintro e w' ⟨rfl, g⟩
    exact ⟨.slice none 0 0, rfl, Sv.nil _, g⟩
  · have hg : goodQ ⟨op, id, a, b, x0, y0, x1, y1, s, L⟩ = ⟨10, 1 + around id 9, 1 + around a 3, 0, 0, 0, 0, 0, ⟨#[]⟩, []⟩ := by unfold goodQ goodI; dsimp only; rw [ho]; rfl
    rw [hg]
    rw [ho] at ca
    refine (rgood_10 op id a b x0 y0 x1 y1 s A L.length c w (around id 9) bi (around a 3) (around_bd a 3 (by omega)) (fun V => around1 a 3 V h3 (by omega)) ca ci).mono ?_
    rintro e w' ⟨rfl, g⟩
    exact ⟨.slice none 0 0, rfl, Sv.nil _, g⟩
  · have hg : goodQ ⟨op, id, a, b, x0, y0, x1, y1, s, L⟩ = ⟨11, 1 + around id 9, 0, 0, (smallR x0 y0 x1 y1).a, (smallR x0 y0 x1 y1).b, (smallR x0 y0 x1 y1).c, (smallR x0 y0 x1 y1).d, ⟨#[]⟩, []⟩ := by unfold goodQ goodI; dsimp only; rw [ho]; rfl
    rw [hg]
    rw [ho] at ca
    refine (rgood_11 op id a b x0 y0 x1 y1 s A L.length c w (around id 9) bi (smallR x0 y0 x1 y1) (fun V => small1 x0 y0 x1 y1 V h5 h6 h7 h8) ca ci).mono ?_
    rintro e w' ⟨rfl, g⟩
    exact ⟨.slice none 0 0, rfl, Sv.nil _, g⟩
  · have hg : goodQ ⟨op, id, a, b, x0, y0, x1, y1, s, L⟩ = ⟨12, 1 + around id 9, 0, 0, (smallR x0 y0 x1 y1).a, (smallR x0 y0 x1 y1).b, (smallR x0 y0 x1 y1).c, (smallR x0 y0 x1 y1).d, ⟨#[]⟩, []⟩ := by unfold goodQ goodI; dsimp only; rw [ho]; rfl
    rw [hg]
    rw [ho] at ca
    refine (rgood_12 op id a b x0 y0 x1 y1 s A L.length c w (around id 9) bi (smallR x0 y0 x1 y1) (fun V => small1 x0 y0 x1 y1 V h5 h6 h7 h8) ca ci).mono ?_
    rintro e w' ⟨rfl, g⟩
    exact ⟨.slice none 0 0, rfl, Sv.nil _, g⟩
  · have hg : goodQ ⟨op, id, a, b, x0, y0, x1, y1, s, L⟩ = ⟨13, 1 + around id 9, around a 256, 0, 0, 0, 0, 0, ⟨#[]⟩, []⟩ := by unfold goodQ goodI; dsimp only; rw [ho]; rfl
    rw [hg]
    rw [ho] at ca
    refine (rgood_13 op id a b x0 y0 x1 y1 s A L.length c w (around id 9) bi (around a 256) (fun V => around1 a 256 V h3 (by omega)) ca ci).mono ?_
    rintro e w' ⟨rfl, g⟩
    exact ⟨.slice none 0 0, rfl, Sv.nil _, g⟩
  · have hg : goodQ ⟨op, id, a, b, x0, y0, x1, y1, s, L⟩ = ⟨14, 1 + around id 9, 0, 0, 0, 0, 0, 0, bs (clX (sgs (s.data.toList.take 20))), []⟩ := by unfold goodQ goodI; dsimp only; rw [ho]; rfl
    rw [hg]
    rw [ho] at ca
    have hcl := fun V => rclean1 (bs (s.data.toList.take 20)) (by rw [bs_size, List.length_take]; omega) V
    rw [bs_list] at hcl
    refine (rgood_14 op id a b x0 y0 x1 y1 s A L.length c w (around id 9) bi (bs (s.data.toList.take 20)) (bs (clX (sgs (s.data.toList.take 20)))) (fun V => few1 s h9 20 (by omega) V) hcl ca ci).mono ?_
    rintro e w' ⟨rfl, g⟩
    exact ⟨.slice none 0 0, rfl, Sv.nil _, g⟩
  · have hg : goodQ ⟨op, id, a, b, x0, y0, x1, y1, s, L⟩ = ⟨15, 1 + around id 9, around a 10, 0, 0, 0, 0, 0, ⟨#[]⟩, []⟩ := by unfold goodQ goodI; dsimp only; rw [ho]; rfl
    rw [hg]
    rw [ho] at ca
    refine (rgood_15 op id a b x0 y0 x1 y1 s A L.length c w (around id 9) bi (around a 10) (fun V => around1 a 10 V h3 (by omega)) ca ci).mono ?_
    rintro e w' ⟨rfl, g⟩
    exact ⟨.slice none 0 0, rfl, Sv.nil _, g⟩
  · have hg : goodQ ⟨op, id, a, b, x0, y0, x1, y1, s, L⟩ = ⟨16, 1 + around id 9, 0, 0, 0, 0, 0, 0, ⟨#[]⟩, []⟩ := by unfold goodQ goodI; dsimp only; rw [ho]; rfl
    rw [hg]
    rw [ho] at ca
    refine (rgood_16 op id a b x0 y0 x1 y1 s A L.length c w (around id 9) bi  ca ci).mono ?_
    rintro e w' ⟨rfl, g⟩
    exact ⟨.slice none 0 0, rfl, Sv.nil _, g⟩
  · have hg : goodQ ⟨op, id, a, b, x0, y0, x1, y1, s, L⟩ = ⟨17, 1 + around id 9, around a 40 - 10, around b 40 - 10, 0, 0, 0, 0, ⟨#[]⟩, []⟩ := by unfold goodQ goodI; dsimp only; rw [ho]; rfl
    rw [hg]
    rw [ho] at ca
    refine (rgood_17 op id a b x0 y0 x1 y1 s A L.length c w (around id 9) bi (around a 40) (around b 40) (around_bd a 40 (by omega)) (around_bd b 40 (by omega)) (fun V => around1 a 40 V h3 (by omega)) (fun V => around1 b 40 V h4 (by omega)) ca ci).mono ?_
    rintro e w' ⟨rfl, g⟩
    exact ⟨.slice none 0 0, rfl, Sv.nil _, g⟩
  · have hg : goodQ ⟨op, id, a, b, x0, y0, x1, y1, s, L⟩ = ⟨18, 0, around a 40 - 10, around b 40 - 10, 0, 0, 0, 0, ⟨#[]⟩, []⟩ := by unfold goodQ goodI; dsimp only; rw [ho]; rfl
    rw [hg]
    rw [ho] at ca
    refine (rgood_18 op id a b x0 y0 x1 y1 s A L.length c w (around id 9) bi (around a 40) (around b 40) (around_bd a 40 (by omega)) (around_bd b 40 (by omega)) (fun V => around1 a 40 V h3 (by omega)) (fun V => around1 b 40 V h4 (by omega)) ca ci).mono ?_
    rintro e w' ⟨rfl, g⟩
    exact ⟨.slice none 0 0, rfl, Sv.nil _, g⟩

end Go.Proofs.YthkbenhlhldglaaDoor
