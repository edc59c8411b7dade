/-
  What is proved: the statement RequestReads walked: the request of a message, or the error, is the document's, for any message, any byte that is another one. No conditions but bounds.
-/
import Derived.Test.YthkbenhlhldglaaDoorZi
import Derived.Test.YthkbenhlhldglaaDoorZj
import Derived.Test.YthkbenhlhldglaaDoorMk
import Derived.Test.YthkbenhlhldglaaDoorZka
import Derived.Test.YthkbenhlhldglaaDoorZof
import Derived.Test.YthkbenhlhldglaaDoorZph
import Derived.Test.YthkbenhlhldglaaDoorMa
import Derived.Test.YthkbenhlhldglaaDoorMb
import Derived.Deep.RegionHeld3
import Derived.Deep.CutBlock
import Derived.Deep.DeepCutAuto
namespace Go.Proofs.YthkbenhlhldglaaDoor
open Go.RowKit Go.Sort

/-- A byte is stored into a row that the call owns. -/
theorem OwB.putQ {w : World} {B g c i : Nat} {L : List Int} (h : OwB w B (some ⟨g, 0, none⟩) c L) (x : Int) : OwB (w.setCell ⟨g, i, none⟩ (.int .u8 x)) B (some ⟨g, 0, none⟩) c (L.set i x) := by
  have k := (World.ownsRow.stored h i (.int .u8 x)).1
  unfold OwB
  rw [List.length_set, show cB (L.set i x) = (cB L).set i (.int .u8 x) by simp [cB]]
  exact k
theorem ByL.setQ {L : List Int} (h : ByL L) {i : Nat} {x : Int} (hx : 0 ≤ x ∧ x ≤ 255) : ByL (L.set i x) := fun y hy => by
  rcases List.mem_or_eq_of_mem_set hy with hy | rfl
  · exact h y hy
  · exact hx
theorem goodQ_by' {r : Rq} (h : ByL r.d) : ByL (goodQ r).d := by
  rcases goodQ_d r with e | e
  · rw [e]; exact ByL.nil
  · rw [e]; exact h.take 64
/-- A message whose body can be read, as it lies. -/
structure MsOk (w : World) (p : Ms × Value) : Prop where
  sv : Sv w p.2 p.1.body
  by_ : ByL p.1.body
  len : p.1.body.length ≤ 1000000
theorem sameQ_self (r : Rq) : sameQ r r = true := (sameQ_iff r r).2 rfl
theorem five_mv {w : World} {b : Nat} {o0 i0 o1 i1 o2 i2 o3 i3 o4 i4 : Int} {L0 L1 L2 L3 L4 : List Int} {v0 v1 v2 v3 v4 : Value} {t : TypeId}
    (h : At w b #[.int .i64 o0, .int .i64 i0, v0, .int .i64 o1, .int .i64 i1, v1, .int .i64 o2, .int .i64 i2, v2, .int .i64 o3, .int .i64 i3, v3, .int .i64 o4, .int .i64 i4, v4] t)
    (s0 : Sv w v0 L0) (s1 : Sv w v1 L1) (s2 : Sv w v2 L2) (s3 : Sv w v3 L3) (s4 : Sv w v4 L4) : Mv w (some ⟨b, 0, none⟩) [(⟨o0, i0, L0⟩, v0), (⟨o1, i1, L1⟩, v1), (⟨o2, i2, L2⟩, v2), (⟨o3, i3, L3⟩, v3), (⟨o4, i4, L4⟩, v4)] := by
  refine ⟨.inr ⟨b, 0, rfl, fun k p hp => ?_⟩, fun p hp => ?_⟩
  · match k, hp with
    | 0, hp => cases hp; exact ⟨(h.cell 0).trans rfl, (h.cell 1).trans rfl, (h.cell 2).trans rfl⟩
    | 1, hp => cases hp; exact ⟨(h.cell 3).trans rfl, (h.cell 4).trans rfl, (h.cell 5).trans rfl⟩
    | 2, hp => cases hp; exact ⟨(h.cell 6).trans rfl, (h.cell 7).trans rfl, (h.cell 8).trans rfl⟩
    | 3, hp => cases hp; exact ⟨(h.cell 9).trans rfl, (h.cell 10).trans rfl, (h.cell 11).trans rfl⟩
    | 4, hp => cases hp; exact ⟨(h.cell 12).trans rfl, (h.cell 13).trans rfl, (h.cell 14).trans rfl⟩
    | k + 5, hp => simp at hp
  · simp only [List.mem_cons, List.not_mem_nil, or_false] at hp
    rcases hp with rfl | rfl | rfl | rfl | rfl
    · exact s0
    · exact s1
    · exact s2
    · exact s3
    · exact s4
set_option maxRecDepth 100000 in
set_option maxHeartbeats 4000000 in
theorem qreads_core (m : Ms) (A : Option Addr) (c : Nat) (r : Rq) (d : Value) (at_ x : Int) (w : World) (hn : A = none → c = 0) (hl : m.body.length ≤ c) (hcm : c ≤ maxLen) (hA : RwB w A m.body) (hy : ByL m.body) (hsv : Sv w d r.d) (hin : InQ r) (hat : I64 at_) (hx : 0 ≤ x ∧ x ≤ 255) :
    Calls Tryd.prog 3 #[.agg #[.int .i64 m.op, .int .i64 m.id, .slice A m.body.length c], vQ r d, .int .i64 at_, .int .u8 x] w (fun e w' => e = .returned (.bool true) ∧ Bl w w') := by
  have hAd := hA.ad
  have cf := fun V => fewB1 A c m.body 80 80 rfl V hAd hl hcm (by omega)
  have hT8 : (m.body.take 80).length ≤ 80 := by rw [List.length_take]; omega
  have hTy : ByL (m.body.take 80) := hy.take 80
  have hTc : (m.body.take 80).length ≤ c := Nat.le_trans (by rw [List.length_take]; omega) hl
  have sT : Sv w (.slice A (m.body.take 80).length c) (m.body.take 80) := ⟨A, c, rfl, hn, hTc, hcm, by
    rcases hA with h | ⟨b, off, h, hr⟩
    · exact .inl (by rw [h]; rfl)
    · exact .inr ⟨b, off, h, hr.take 80⟩⟩
  clear hAd hl hA hy hTc
  generalize m.body.take 80 = T at *
  generalize m.body.length = lm at *
  have bg := goodQ_by' hin.d
  have cg := fun V (g : Bl w V) => rgoodQ1 r d V (hsv.bl g) hin
  obtain ⟨Ad, cd, rfl, _⟩ := hsv
  obtain ⟨b, hb5, _, he, _⟩ := (goodQ_ok r).enc
  have hbe := (encR_by bg).1
  have ce := fun V d' h => renc1 (goodQ r) d' V h bg
  rw [he] at hbe ce
  clear he bg hin
  unfold GoodQ at cg
  unfold EncQ at ce
  generalize goodQ r = g at *
  dsimp only at ce hbe
  unfold vQ at *
  generalize r.d.length = nd at *
  generalize hgo : g.op = go at *
  generalize hgi : g.id = gi at *
  replace hgo := Lib.hid hgo
  replace hgi := Lib.hid hgi
  obtain ⟨tl, htl⟩ : ∃ tl, tl = T.length := ⟨_, rfl⟩
  rw [← htl] at cf sT
  replace htl := Lib.hid htl
  replace sT := Lib.hid sT
  replace hTy := Lib.hid hTy
  replace hbe := Lib.hid hbe
  have X4b := (At.new w #[.int .i64 m.op, .int .i64 m.id, .slice A tl c] 24).alloc (.cells #[.int .i64 r.op, .int .i64 r.id, .int .i64 r.a, .int .i64 r.b, .int .i64 r.x0, .int .i64 r.y0, .int .i64 r.x1, .int .i64 r.y1, .string r.s, .slice Ad nd cd] 28)
  have X5b := At.newAt (w := w.alloc (.cells #[.int .i64 m.op, .int .i64 m.id, .slice A tl c] 24)) (n := w.heap.size + 1) (by simp) #[.int .i64 r.op, .int .i64 r.id, .int .i64 r.a, .int .i64 r.b, .int .i64 r.x0, .int .i64 r.y0, .int .i64 r.x1, .int .i64 r.y1, .string r.s, .slice Ad nd cd] 28
  have G1 : Bl w ((w.alloc (.cells #[.int .i64 m.op, .int .i64 m.id, .slice A tl c] 24)).alloc (.cells #[.int .i64 r.op, .int .i64 r.id, .int .i64 r.a, .int .i64 r.b, .int .i64 r.x0, .int .i64 r.y0, .int .i64 r.x1, .int .i64 r.y1, .string r.s, .slice Ad nd cd] 28)) := ((Bl.refl w).alloc _).alloc _
  have yk0 : (((w.alloc (.cells #[.int .i64 m.op, .int .i64 m.id, .slice A tl c] 24)).alloc (.cells #[.int .i64 r.op, .int .i64 r.id, .int .i64 r.a, .int .i64 r.b, .int .i64 r.x0, .int .i64 r.y0, .int .i64 r.x1, .int .i64 r.y1, .string r.s, .slice Ad nd cd] 28))).cell? ⟨w.heap.size + 1, 0, none⟩ = some (.int .i64 r.op) := (X5b.cell 0).trans rfl
  have yk1 : (((w.alloc (.cells #[.int .i64 m.op, .int .i64 m.id, .slice A tl c] 24)).alloc (.cells #[.int .i64 r.op, .int .i64 r.id, .int .i64 r.a, .int .i64 r.b, .int .i64 r.x0, .int .i64 r.y0, .int .i64 r.x1, .int .i64 r.y1, .string r.s, .slice Ad nd cd] 28))).cell? ⟨w.heap.size + 1, 1, none⟩ = some (.int .i64 r.id) := (X5b.cell 1).trans rfl
  have yk2 : (((w.alloc (.cells #[.int .i64 m.op, .int .i64 m.id, .slice A tl c] 24)).alloc (.cells #[.int .i64 r.op, .int .i64 r.id, .int .i64 r.a, .int .i64 r.b, .int .i64 r.x0, .int .i64 r.y0, .int .i64 r.x1, .int .i64 r.y1, .string r.s, .slice Ad nd cd] 28))).cell? ⟨w.heap.size + 1, 2, none⟩ = some (.int .i64 r.a) := (X5b.cell 2).trans rfl
  have yk3 : (((w.alloc (.cells #[.int .i64 m.op, .int .i64 m.id, .slice A tl c] 24)).alloc (.cells #[.int .i64 r.op, .int .i64 r.id, .int .i64 r.a, .int .i64 r.b, .int .i64 r.x0, .int .i64 r.y0, .int .i64 r.x1, .int .i64 r.y1, .string r.s, .slice Ad nd cd] 28))).cell? ⟨w.heap.size + 1, 3, none⟩ = some (.int .i64 r.b) := (X5b.cell 3).trans rfl
  have yk4 : (((w.alloc (.cells #[.int .i64 m.op, .int .i64 m.id, .slice A tl c] 24)).alloc (.cells #[.int .i64 r.op, .int .i64 r.id, .int .i64 r.a, .int .i64 r.b, .int .i64 r.x0, .int .i64 r.y0, .int .i64 r.x1, .int .i64 r.y1, .string r.s, .slice Ad nd cd] 28))).cell? ⟨w.heap.size + 1, 4, none⟩ = some (.int .i64 r.x0) := (X5b.cell 4).trans rfl
  have yk5 : (((w.alloc (.cells #[.int .i64 m.op, .int .i64 m.id, .slice A tl c] 24)).alloc (.cells #[.int .i64 r.op, .int .i64 r.id, .int .i64 r.a, .int .i64 r.b, .int .i64 r.x0, .int .i64 r.y0, .int .i64 r.x1, .int .i64 r.y1, .string r.s, .slice Ad nd cd] 28))).cell? ⟨w.heap.size + 1, 5, none⟩ = some (.int .i64 r.y0) := (X5b.cell 5).trans rfl
  have yk6 : (((w.alloc (.cells #[.int .i64 m.op, .int .i64 m.id, .slice A tl c] 24)).alloc (.cells #[.int .i64 r.op, .int .i64 r.id, .int .i64 r.a, .int .i64 r.b, .int .i64 r.x0, .int .i64 r.y0, .int .i64 r.x1, .int .i64 r.y1, .string r.s, .slice Ad nd cd] 28))).cell? ⟨w.heap.size + 1, 6, none⟩ = some (.int .i64 r.x1) := (X5b.cell 6).trans rfl
  have yk7 : (((w.alloc (.cells #[.int .i64 m.op, .int .i64 m.id, .slice A tl c] 24)).alloc (.cells #[.int .i64 r.op, .int .i64 r.id, .int .i64 r.a, .int .i64 r.b, .int .i64 r.x0, .int .i64 r.y0, .int .i64 r.x1, .int .i64 r.y1, .string r.s, .slice Ad nd cd] 28))).cell? ⟨w.heap.size + 1, 7, none⟩ = some (.int .i64 r.y1) := (X5b.cell 7).trans rfl
  have yk8 : (((w.alloc (.cells #[.int .i64 m.op, .int .i64 m.id, .slice A tl c] 24)).alloc (.cells #[.int .i64 r.op, .int .i64 r.id, .int .i64 r.a, .int .i64 r.b, .int .i64 r.x0, .int .i64 r.y0, .int .i64 r.x1, .int .i64 r.y1, .string r.s, .slice Ad nd cd] 28))).cell? ⟨w.heap.size + 1, 8, none⟩ = some (.string r.s) := (X5b.cell 8).trans rfl
  have yk9 : (((w.alloc (.cells #[.int .i64 m.op, .int .i64 m.id, .slice A tl c] 24)).alloc (.cells #[.int .i64 r.op, .int .i64 r.id, .int .i64 r.a, .int .i64 r.b, .int .i64 r.x0, .int .i64 r.y0, .int .i64 r.x1, .int .i64 r.y1, .string r.s, .slice Ad nd cd] 28))).cell? ⟨w.heap.size + 1, 9, none⟩ = some (.slice Ad nd cd) := (X5b.cell 9).trans rfl
  clear X5b
  go_enter Tryd.func3, Tryd.ntmps3
  go_wp2_with fail
  refine (cf _).mono ?_
  rintro e w1 ⟨rfl, rfl⟩
  go_wp2_with fail
  refine (cg _ G1).mono ?_
  rintro e w2 ⟨dg, rfl, sg, g2⟩
  have cE := ce _ _ sg
  obtain ⟨Ag, kg, rfl, _⟩ := sg
  generalize g.d.length = ng at *
  clear yk0 yk1 yk2 yk3 yk4 yk5 yk6 yk7 yk8 yk9 cg ce cf
  go_wp2_with fail
  refine cE.mono ?_
  rintro e w3 ⟨v3, rfl, s3, g3⟩
  have s3' := s3
  obtain ⟨A3, c3, rfl, q1, q2, q3, q4⟩ := s3
  have s3 := Lib.hid s3'
  clear s3' cE
  have hgg := g2.trans g3
  have X4c := X4b.bl hgg
  have G3 := (G1.trans hgg).alloc (.cells #[.int .i64 go, .int .i64 gi, .slice A3 b.length c3] 24)
  have X9l := At.new w3 #[.int .i64 go, .int .i64 gi, .slice A3 b.length c3] 24
  have X4b := X4c.alloc (.cells #[.int .i64 go, .int .i64 gi, .slice A3 b.length c3] 24)
  have s3 := Lib.hid (s3.out.bl ((Bl.refl w3).alloc (.cells #[.int .i64 go, .int .i64 gi, .slice A3 b.length c3] 24)))
  have sT3 := Lib.hid (sT.out.bl G3)
  have q4 := q4.bl ((Bl.refl w3).alloc (.cells #[.int .i64 go, .int .i64 gi, .slice A3 b.length c3] 24))
  have b0 : (w3.alloc (.cells #[.int .i64 go, .int .i64 gi, .slice A3 b.length c3] 24)).cell? ⟨w3.heap.size, 2, none⟩ = some (.slice A3 b.length c3) := (X9l.cell 2).trans rfl
  have cl := qlives1
  clear X4c hgg g2 g3 G1 sT
  dsimp only
  by_cases hD0 : b.length = 0
  · have d1 : ¬ 0 < b.length := by omega
    clear hD0
    go_wp2_with (at_builtin; refine wp_app_b rfl (.tmp 28) (.tmp 30) rfl none 0 [] rfl (w3.alloc (.cells #[.int .i64 go, .int .i64 gi, .slice A3 b.length c3] 24)).heap.size (OwB.nil _ _) A3 b c3 rfl q1 q4 (by simp; omega) (Nat.le_refl _) ?_; intro A4 c4 w4 own4' by4 _; rw [List.length_nil, Nat.zero_add]; have H4 : Bl (w3.alloc (.cells #[.int .i64 go, .int .i64 gi, .slice A3 b.length c3] 24)) w4 := app_bl by4 (Bl.refl _) (Or.inl rfl) (Nat.le_refl _); have own4 : OwB w4 (w3.alloc (.cells #[.int .i64 go, .int .i64 gi, .slice A3 b.length c3] 24)).heap.size A4 c4 b := own4'; clear own4' by4; have X4c := X4b.bl H4; have X9c := X9l.bl H4; have ak0 : (w4).cell? ⟨w.heap.size, 0, none⟩ = some (.int .i64 m.op) := (X4c.cell 0).trans rfl; have ak1 : (w4).cell? ⟨w.heap.size, 1, none⟩ = some (.int .i64 m.id) := (X4c.cell 1).trans rfl; have ak2 : (w4).cell? ⟨w.heap.size, 2, none⟩ = some (.slice A tl c) := (X4c.cell 2).trans rfl; have bk0 : (w4).cell? ⟨w3.heap.size, 0, none⟩ = some (.int .i64 go) := (X9c.cell 0).trans rfl; have bk1 : (w4).cell? ⟨w3.heap.size, 1, none⟩ = some (.int .i64 gi) := (X9c.cell 1).trans rfl; have bk2 : (w4).cell? ⟨w3.heap.size, 2, none⟩ = some (.slice A3 b.length c3) := (X9c.cell 2).trans rfl)
    have s4 := Lib.hid (OwB.sv own4)
    have XX := At.new w4 #[.int .i64 m.op, .int .i64 m.id, .slice A tl c, .int .i64 go, .int .i64 gi, .slice A3 b.length c3, .int .i64 go, .int .i64 m.id, .slice A3 b.length c3, .int .i64 go, .int .i64 gi, .slice A4 b.length c4, .int .i64 m.op, .int .i64 gi, .slice A3 b.length c3] 24
    have HX : Bl (w3.alloc (.cells #[.int .i64 go, .int .i64 gi, .slice A3 b.length c3] 24)) (w4.alloc (.cells #[.int .i64 m.op, .int .i64 m.id, .slice A tl c, .int .i64 go, .int .i64 gi, .slice A3 b.length c3, .int .i64 go, .int .i64 m.id, .slice A3 b.length c3, .int .i64 go, .int .i64 gi, .slice A4 b.length c4, .int .i64 m.op, .int .i64 gi, .slice A3 b.length c3] 24)) := H4.alloc _
    have M0 := five_mv XX (sT3.out.bl HX) (s3.out.bl HX) (s3.out.bl HX) (s4.out.bl ((Bl.refl _).alloc _)) (s3.out.bl HX)
    have GX := Lib.hid (G3.trans HX)
    have hok : ∀ p ∈ [((⟨m.op, m.id, T⟩ : Ms), Value.slice A tl c), (⟨go, gi, b⟩, .slice A3 b.length c3), (⟨go, m.id, b⟩, .slice A3 b.length c3), (⟨go, gi, b⟩, .slice A4 b.length c4), (⟨m.op, gi, b⟩, .slice A3 b.length c3)], ByL p.1.body ∧ p.1.body.length ≤ 1000000 := by
      intro p hp
      simp only [List.mem_cons, List.not_mem_nil, or_false] at hp
      rcases hp with rfl | rfl | rfl | rfl | rfl
      · exact ⟨hTy.out, by dsimp only; omega⟩
      · exact ⟨hbe.out, by dsimp only; omega⟩
      · exact ⟨hbe.out, by dsimp only; omega⟩
      · exact ⟨hbe.out, by dsimp only; omega⟩
      · exact ⟨hbe.out, by dsimp only; omega⟩
    obtain ⟨X, hX⟩ : ∃ X, X = [((⟨m.op, m.id, T⟩ : Ms), Value.slice A tl c), (⟨go, gi, b⟩, .slice A3 b.length c3), (⟨go, m.id, b⟩, .slice A3 b.length c3), (⟨go, gi, b⟩, .slice A4 b.length c4), (⟨m.op, gi, b⟩, .slice A3 b.length c3)] := ⟨_, rfl⟩
    have hXl : X.length = 5 := by rw [hX]; rfl
    rw [← hX] at M0 hok
    replace hX := Lib.hid hX
    replace hXl := Lib.hid hXl
    replace M0 := Lib.hid M0
    replace hok := Lib.hid hok
    clear XX HX X4c X9c
    generalize w4.alloc (.cells #[.int .i64 m.op, .int .i64 m.id, .slice A tl c, .int .i64 go, .int .i64 gi, .slice A3 b.length c3, .int .i64 go, .int .i64 m.id, .slice A3 b.length c3, .int .i64 go, .int .i64 gi, .slice A4 b.length c4, .int .i64 m.op, .int .i64 gi, .slice A3 b.length c3] 24) = w9 at *
    generalize w4.heap.size = b9 at *
    clear ak0 ak1 ak2 bk0 bk1 bk2 X4b X9l H4 G3
    obtain ⟨AX, hAX⟩ : ∃ AX, AX = (some ⟨b9, 0, none⟩ : Option Addr) := ⟨_, rfl⟩
    rw [← hAX] at M0 ⊢
    clear hAX
    go_loopw [13] (fun i wr => ∃ k : Nat, k ≤ 5 ∧ i = .int .i64 ((k : Nat) : Int) ∧ Bl w9 wr) (fun i _ => 5 - (intOf i).toNat)
    case atStart => exact ⟨0, by omega, rfl, Bl.refl _⟩
    case round =>
      obtain ⟨k, hk, rfl, G⟩ := hrel
      by_cases hlt : k < 5
      · have q1 : (k : Int) < 5 := by omega
        obtain ⟨bx, off, p, rfl, hp, x0, x1, x2, sv⟩ := (M0.out.bl G).at (k := k) (by rw [hXl.out]; exact hlt)
        obtain ⟨hpy, hpl⟩ := hok.out p (List.mem_of_getElem? hp)
        obtain ⟨⟨op, id, body⟩, v⟩ := p
        dsimp only at *
        obtain ⟨A5, c5, rfl, u1, u2, u3, u4⟩ := sv
        have cd := fun V (g : Bl wr V) => dec1 ⟨op, id, body⟩ A5 c5 V (u4.bl g) u1 u2 u3 hpy hpl
        have cr := fun V (g : Bl wr V) => rdec1 ⟨op, id, body⟩ A5 c5 V (u4.bl g) u1 u2 u3 hpy hpl
        have hdb := dec_by (m := ⟨op, id, body⟩) hpy
        unfold DecQ at cd cr
        generalize decR ⟨op, id, body⟩ = D at *
        obtain ⟨q, E⟩ := D
        dsimp only at *
        generalize body.length = n5 at *
        have ck := fun V d e (h1 : Sv V d q.d) (h2 : Sv V e q.d) => qlike1 q q d e V h1 h2 hdb hdb
        rw [sameQ_self] at ck
        unfold vQ at *
        clear u1 u2 u3 u4 hp M0 hok hpy hpl hdb
        go_wp2_with fail
        refine (cd _ (Bl.refl _)).mono ?_
        rintro e w10 ⟨d1, rfl, i1, g10⟩
        have v1 := i1.sv
        obtain ⟨B1, k1, rfl, _⟩ := i1.sv
        obtain ⟨nq, hnq⟩ : ∃ nq, nq = q.d.length := ⟨_, rfl⟩
        rw [← hnq] at v1 ⊢
        replace v1 := Lib.hid v1
        clear cd i1
        have H11 := g10.alloc (.cells #[.int .i64 q.op, .int .i64 q.id, .int .i64 q.a, .int .i64 q.b, .int .i64 q.x0, .int .i64 q.y0, .int .i64 q.x1, .int .i64 q.y1, .string q.s, .slice B1 nq k1] 36)
        have y0 := H11.keep x0
        have y1 := H11.keep x1
        have y2 := H11.keep x2
        have XQ := At.new w10 #[.int .i64 q.op, .int .i64 q.id, .int .i64 q.a, .int .i64 q.b, .int .i64 q.x0, .int .i64 q.y0, .int .i64 q.x1, .int .i64 q.y1, .string q.s, .slice B1 nq k1] 36
        replace hnq := Lib.hid hnq
        go_wp2_with fail
        refine (cr _ H11).mono ?_
        rintro e w12 ⟨d2, rfl, i2, g12⟩
        have v2 := i2.sv
        obtain ⟨B2, k2, rfl, _⟩ := i2.sv
        rw [← hnq.out] at v2 ⊢
        replace v2 := Lib.hid v2
        clear cr i2
        have XQ1 := (XQ.bl g12).alloc (.cells #[.int .i64 q.op, .int .i64 q.id, .int .i64 q.a, .int .i64 q.b, .int .i64 q.x0, .int .i64 q.y0, .int .i64 q.x1, .int .i64 q.y1, .string q.s, .slice B2 nq k2] 28)
        have XR1 := At.new w12 #[.int .i64 q.op, .int .i64 q.id, .int .i64 q.a, .int .i64 q.b, .int .i64 q.x0, .int .i64 q.y0, .int .i64 q.x1, .int .i64 q.y1, .string q.s, .slice B2 nq k2] 28
        have v1' := v1.out.bl (((Bl.refl w10).alloc (.cells #[.int .i64 q.op, .int .i64 q.id, .int .i64 q.a, .int .i64 q.b, .int .i64 q.x0, .int .i64 q.y0, .int .i64 q.x1, .int .i64 q.y1, .string q.s, .slice B1 nq k1] 36)).trans (g12.alloc (.cells #[.int .i64 q.op, .int .i64 q.id, .int .i64 q.a, .int .i64 q.b, .int .i64 q.x0, .int .i64 q.y0, .int .i64 q.x1, .int .i64 q.y1, .string q.s, .slice B2 nq k2] 28)))
        have v2' := v2.out.bl ((Bl.refl w12).alloc (.cells #[.int .i64 q.op, .int .i64 q.id, .int .i64 q.a, .int .i64 q.b, .int .i64 q.x0, .int .i64 q.y0, .int .i64 q.x1, .int .i64 q.y1, .string q.s, .slice B2 nq k2] 28))
        have H13 := (H11.trans g12).alloc (.cells #[.int .i64 q.op, .int .i64 q.id, .int .i64 q.a, .int .i64 q.b, .int .i64 q.x0, .int .i64 q.y0, .int .i64 q.x1, .int .i64 q.y1, .string q.s, .slice B2 nq k2] 28)
        have ckk := ck _ _ _ v1' v2'
        have ck0 : ((w12.alloc (.cells #[.int .i64 q.op, .int .i64 q.id, .int .i64 q.a, .int .i64 q.b, .int .i64 q.x0, .int .i64 q.y0, .int .i64 q.x1, .int .i64 q.y1, .string q.s, .slice B2 nq k2] 28))).cell? ⟨w10.heap.size, 0, none⟩ = some (.int .i64 q.op) := (XQ1.cell 0).trans rfl
        have ck1 : ((w12.alloc (.cells #[.int .i64 q.op, .int .i64 q.id, .int .i64 q.a, .int .i64 q.b, .int .i64 q.x0, .int .i64 q.y0, .int .i64 q.x1, .int .i64 q.y1, .string q.s, .slice B2 nq k2] 28))).cell? ⟨w10.heap.size, 1, none⟩ = some (.int .i64 q.id) := (XQ1.cell 1).trans rfl
        have ck2 : ((w12.alloc (.cells #[.int .i64 q.op, .int .i64 q.id, .int .i64 q.a, .int .i64 q.b, .int .i64 q.x0, .int .i64 q.y0, .int .i64 q.x1, .int .i64 q.y1, .string q.s, .slice B2 nq k2] 28))).cell? ⟨w10.heap.size, 2, none⟩ = some (.int .i64 q.a) := (XQ1.cell 2).trans rfl
        have ck3 : ((w12.alloc (.cells #[.int .i64 q.op, .int .i64 q.id, .int .i64 q.a, .int .i64 q.b, .int .i64 q.x0, .int .i64 q.y0, .int .i64 q.x1, .int .i64 q.y1, .string q.s, .slice B2 nq k2] 28))).cell? ⟨w10.heap.size, 3, none⟩ = some (.int .i64 q.b) := (XQ1.cell 3).trans rfl
        have ck4 : ((w12.alloc (.cells #[.int .i64 q.op, .int .i64 q.id, .int .i64 q.a, .int .i64 q.b, .int .i64 q.x0, .int .i64 q.y0, .int .i64 q.x1, .int .i64 q.y1, .string q.s, .slice B2 nq k2] 28))).cell? ⟨w10.heap.size, 4, none⟩ = some (.int .i64 q.x0) := (XQ1.cell 4).trans rfl
        have ck5 : ((w12.alloc (.cells #[.int .i64 q.op, .int .i64 q.id, .int .i64 q.a, .int .i64 q.b, .int .i64 q.x0, .int .i64 q.y0, .int .i64 q.x1, .int .i64 q.y1, .string q.s, .slice B2 nq k2] 28))).cell? ⟨w10.heap.size, 5, none⟩ = some (.int .i64 q.y0) := (XQ1.cell 5).trans rfl
        have ck6 : ((w12.alloc (.cells #[.int .i64 q.op, .int .i64 q.id, .int .i64 q.a, .int .i64 q.b, .int .i64 q.x0, .int .i64 q.y0, .int .i64 q.x1, .int .i64 q.y1, .string q.s, .slice B2 nq k2] 28))).cell? ⟨w10.heap.size, 6, none⟩ = some (.int .i64 q.x1) := (XQ1.cell 6).trans rfl
        have ck7 : ((w12.alloc (.cells #[.int .i64 q.op, .int .i64 q.id, .int .i64 q.a, .int .i64 q.b, .int .i64 q.x0, .int .i64 q.y0, .int .i64 q.x1, .int .i64 q.y1, .string q.s, .slice B2 nq k2] 28))).cell? ⟨w10.heap.size, 7, none⟩ = some (.int .i64 q.y1) := (XQ1.cell 7).trans rfl
        have ck8 : ((w12.alloc (.cells #[.int .i64 q.op, .int .i64 q.id, .int .i64 q.a, .int .i64 q.b, .int .i64 q.x0, .int .i64 q.y0, .int .i64 q.x1, .int .i64 q.y1, .string q.s, .slice B2 nq k2] 28))).cell? ⟨w10.heap.size, 8, none⟩ = some (.string q.s) := (XQ1.cell 8).trans rfl
        have ck9 : ((w12.alloc (.cells #[.int .i64 q.op, .int .i64 q.id, .int .i64 q.a, .int .i64 q.b, .int .i64 q.x0, .int .i64 q.y0, .int .i64 q.x1, .int .i64 q.y1, .string q.s, .slice B2 nq k2] 28))).cell? ⟨w10.heap.size, 9, none⟩ = some (.slice B1 nq k1) := (XQ1.cell 9).trans rfl
        have dk0 : ((w12.alloc (.cells #[.int .i64 q.op, .int .i64 q.id, .int .i64 q.a, .int .i64 q.b, .int .i64 q.x0, .int .i64 q.y0, .int .i64 q.x1, .int .i64 q.y1, .string q.s, .slice B2 nq k2] 28))).cell? ⟨w12.heap.size, 0, none⟩ = some (.int .i64 q.op) := (XR1.cell 0).trans rfl
        have dk1 : ((w12.alloc (.cells #[.int .i64 q.op, .int .i64 q.id, .int .i64 q.a, .int .i64 q.b, .int .i64 q.x0, .int .i64 q.y0, .int .i64 q.x1, .int .i64 q.y1, .string q.s, .slice B2 nq k2] 28))).cell? ⟨w12.heap.size, 1, none⟩ = some (.int .i64 q.id) := (XR1.cell 1).trans rfl
        have dk2 : ((w12.alloc (.cells #[.int .i64 q.op, .int .i64 q.id, .int .i64 q.a, .int .i64 q.b, .int .i64 q.x0, .int .i64 q.y0, .int .i64 q.x1, .int .i64 q.y1, .string q.s, .slice B2 nq k2] 28))).cell? ⟨w12.heap.size, 2, none⟩ = some (.int .i64 q.a) := (XR1.cell 2).trans rfl
        have dk3 : ((w12.alloc (.cells #[.int .i64 q.op, .int .i64 q.id, .int .i64 q.a, .int .i64 q.b, .int .i64 q.x0, .int .i64 q.y0, .int .i64 q.x1, .int .i64 q.y1, .string q.s, .slice B2 nq k2] 28))).cell? ⟨w12.heap.size, 3, none⟩ = some (.int .i64 q.b) := (XR1.cell 3).trans rfl
        have dk4 : ((w12.alloc (.cells #[.int .i64 q.op, .int .i64 q.id, .int .i64 q.a, .int .i64 q.b, .int .i64 q.x0, .int .i64 q.y0, .int .i64 q.x1, .int .i64 q.y1, .string q.s, .slice B2 nq k2] 28))).cell? ⟨w12.heap.size, 4, none⟩ = some (.int .i64 q.x0) := (XR1.cell 4).trans rfl
        have dk5 : ((w12.alloc (.cells #[.int .i64 q.op, .int .i64 q.id, .int .i64 q.a, .int .i64 q.b, .int .i64 q.x0, .int .i64 q.y0, .int .i64 q.x1, .int .i64 q.y1, .string q.s, .slice B2 nq k2] 28))).cell? ⟨w12.heap.size, 5, none⟩ = some (.int .i64 q.y0) := (XR1.cell 5).trans rfl
        have dk6 : ((w12.alloc (.cells #[.int .i64 q.op, .int .i64 q.id, .int .i64 q.a, .int .i64 q.b, .int .i64 q.x0, .int .i64 q.y0, .int .i64 q.x1, .int .i64 q.y1, .string q.s, .slice B2 nq k2] 28))).cell? ⟨w12.heap.size, 6, none⟩ = some (.int .i64 q.x1) := (XR1.cell 6).trans rfl
        have dk7 : ((w12.alloc (.cells #[.int .i64 q.op, .int .i64 q.id, .int .i64 q.a, .int .i64 q.b, .int .i64 q.x0, .int .i64 q.y0, .int .i64 q.x1, .int .i64 q.y1, .string q.s, .slice B2 nq k2] 28))).cell? ⟨w12.heap.size, 7, none⟩ = some (.int .i64 q.y1) := (XR1.cell 7).trans rfl
        have dk8 : ((w12.alloc (.cells #[.int .i64 q.op, .int .i64 q.id, .int .i64 q.a, .int .i64 q.b, .int .i64 q.x0, .int .i64 q.y0, .int .i64 q.x1, .int .i64 q.y1, .string q.s, .slice B2 nq k2] 28))).cell? ⟨w12.heap.size, 8, none⟩ = some (.string q.s) := (XR1.cell 8).trans rfl
        have dk9 : ((w12.alloc (.cells #[.int .i64 q.op, .int .i64 q.id, .int .i64 q.a, .int .i64 q.b, .int .i64 q.x0, .int .i64 q.y0, .int .i64 q.x1, .int .i64 q.y1, .string q.s, .slice B2 nq k2] 28))).cell? ⟨w12.heap.size, 9, none⟩ = some (.slice B2 nq k2) := (XR1.cell 9).trans rfl
        clear XQ XQ1 XR1 x0 x1 x2 y0 y1 y2 v1 v2 v1' v2' ck
        go_wp2_with fail
        refine ckk.mono ?_
        rintro e w13 ⟨rfl, g13⟩
        go_wp2
        go_roundw
        case rel => exact ⟨k + 1, by omega, by go_num, (G.trans H13).gr g13⟩
        case measure => simp [intOf]; omega
      · have q1 : ¬ (k : Int) < 5 := by omega
        go_wp2_with fail
        refine (cl _).mono ?_
        rintro e w20 ⟨rfl, g20⟩
        go_wp2
        go_ret
        exact ⟨by simp, (GX.out.trans G).trans g20⟩
  · have d1 : 0 < b.length := by omega
    have d2 : (0 : Int) < (b.length : Int) := by omega
    obtain ⟨e0, e1⟩ := aroundM_bd at_ b.length d2
    obtain ⟨j, hj⟩ : ∃ j : Nat, aroundM at_ b.length = j := ⟨(aroundM at_ b.length).toNat, by omega⟩
    have cA := fun V => aroundM1 at_ b.length V hat ⟨by omega, by omega⟩
    rw [hj] at cA e0 e1
    have hjD : j < b.length := by omega
    have q7 : (j : Int) < (b.length : Int) := by omega
    clear hD0 d2 hj e0 e1
    go_wp2_with (at_builtin; refine wp_app_b rfl (.tmp 28) (.tmp 30) rfl none 0 [] rfl (w3.alloc (.cells #[.int .i64 go, .int .i64 gi, .slice A3 b.length c3] 24)).heap.size (OwB.nil _ _) A3 b c3 rfl q1 q4 (by simp; omega) (Nat.le_refl _) ?_; intro A4 c4 w4 own4' by4 _; rw [List.length_nil, Nat.zero_add]; have H4 : Bl (w3.alloc (.cells #[.int .i64 go, .int .i64 gi, .slice A3 b.length c3] 24)) w4 := app_bl by4 (Bl.refl _) (Or.inl rfl) (Nat.le_refl _); have own4 : OwB w4 (w3.alloc (.cells #[.int .i64 go, .int .i64 gi, .slice A3 b.length c3] 24)).heap.size A4 c4 b := own4'; clear own4' by4)
    obtain ⟨gk, rfl, hg⟩ : ∃ gk, A4 = some ⟨gk, 0, none⟩ ∧ (w3.alloc (.cells #[.int .i64 go, .int .i64 gi, .slice A3 b.length c3] 24)).heap.size ≤ gk := by
      rcases own4.lies with h | ⟨g, h, h1, _⟩
      · exfalso
        rcases own4.rwb with h' | ⟨b', off, h', _⟩
        · rw [h'] at d1; simp at d1
        · rw [h] at h'; cases h'
      · exact ⟨g, h, h1⟩
    have own5 := own4.putQ (i := j) x
    have H5 := H4.setCell (p := ⟨gk, j, none⟩) hg (.int .u8 x)
    have fr := World.ownsRow.frozenAt own4 j
    obtain ⟨y, hyj⟩ := list_at hjD
    have cj : w4.cell? ⟨gk, j, none⟩ = some (.int .u8 y) := by
      have := World.ownsRow.cellAt own4 j (by omega)
      rw [this]
      unfold cB
      rw [List.getElem?_map, hyj]; rfl
    have hT8y := Lib.hid (hbe.out.setQ (i := j) (x := x) hx)
    have hTl : (b.set j x).length = b.length := List.length_set
    have hT8l : (b.set j x).length ≤ 512 := by omega
    clear hyj own4 H4
    go_wp2_with fail
    refine (cA _).mono ?_
    rintro e w5 ⟨rfl, rfl⟩
    go_upto_region 7 with fail
    generalize w4.setCell ⟨gk, j, none⟩ (.int .u8 x) = w5 at *
    generalize b.set j x = T8 at *
    clear fr cj cA hjD q7 d1
    have X4c := X4b.bl H5
    have X9c := X9l.bl H5
    have ak0 : (w5).cell? ⟨w.heap.size, 0, none⟩ = some (.int .i64 m.op) := (X4c.cell 0).trans rfl
    have ak1 : (w5).cell? ⟨w.heap.size, 1, none⟩ = some (.int .i64 m.id) := (X4c.cell 1).trans rfl
    have ak2 : (w5).cell? ⟨w.heap.size, 2, none⟩ = some (.slice A tl c) := (X4c.cell 2).trans rfl
    have bk0 : (w5).cell? ⟨w3.heap.size, 0, none⟩ = some (.int .i64 go) := (X9c.cell 0).trans rfl
    have bk1 : (w5).cell? ⟨w3.heap.size, 1, none⟩ = some (.int .i64 gi) := (X9c.cell 1).trans rfl
    have bk2 : (w5).cell? ⟨w3.heap.size, 2, none⟩ = some (.slice A3 b.length c3) := (X9c.cell 2).trans rfl
    have s4 := Lib.hid (OwB.sv own5)
    rw [hTl] at s4
    have XX := At.new w5 #[.int .i64 m.op, .int .i64 m.id, .slice A tl c, .int .i64 go, .int .i64 gi, .slice A3 b.length c3, .int .i64 go, .int .i64 m.id, .slice A3 b.length c3, .int .i64 go, .int .i64 gi, .slice (some ⟨gk, 0, none⟩) b.length c4, .int .i64 m.op, .int .i64 gi, .slice A3 b.length c3] 24
    have HX : Bl (w3.alloc (.cells #[.int .i64 go, .int .i64 gi, .slice A3 b.length c3] 24)) (w5.alloc (.cells #[.int .i64 m.op, .int .i64 m.id, .slice A tl c, .int .i64 go, .int .i64 gi, .slice A3 b.length c3, .int .i64 go, .int .i64 m.id, .slice A3 b.length c3, .int .i64 go, .int .i64 gi, .slice (some ⟨gk, 0, none⟩) b.length c4, .int .i64 m.op, .int .i64 gi, .slice A3 b.length c3] 24)) := H5.alloc _
    have M0 := five_mv XX (sT3.out.bl HX) (s3.out.bl HX) (s3.out.bl HX) (s4.out.bl ((Bl.refl _).alloc _)) (s3.out.bl HX)
    have GX := Lib.hid (G3.trans HX)
    have hok : ∀ p ∈ [((⟨m.op, m.id, T⟩ : Ms), Value.slice A tl c), (⟨go, gi, b⟩, .slice A3 b.length c3), (⟨go, m.id, b⟩, .slice A3 b.length c3), (⟨go, gi, T8⟩, .slice (some ⟨gk, 0, none⟩) b.length c4), (⟨m.op, gi, b⟩, .slice A3 b.length c3)], ByL p.1.body ∧ p.1.body.length ≤ 1000000 := by
      intro p hp
      simp only [List.mem_cons, List.not_mem_nil, or_false] at hp
      rcases hp with rfl | rfl | rfl | rfl | rfl
      · exact ⟨hTy.out, by dsimp only; omega⟩
      · exact ⟨hbe.out, by dsimp only; omega⟩
      · exact ⟨hbe.out, by dsimp only; omega⟩
      · exact ⟨hT8y.out, by dsimp only; omega⟩
      · exact ⟨hbe.out, by dsimp only; omega⟩
    obtain ⟨X, hX⟩ : ∃ X, X = [((⟨m.op, m.id, T⟩ : Ms), Value.slice A tl c), (⟨go, gi, b⟩, .slice A3 b.length c3), (⟨go, m.id, b⟩, .slice A3 b.length c3), (⟨go, gi, T8⟩, .slice (some ⟨gk, 0, none⟩) b.length c4), (⟨m.op, gi, b⟩, .slice A3 b.length c3)] := ⟨_, rfl⟩
    have hXl : X.length = 5 := by rw [hX]; rfl
    rw [← hX] at M0 hok
    replace hX := Lib.hid hX
    replace hXl := Lib.hid hXl
    replace M0 := Lib.hid M0
    replace hok := Lib.hid hok
    clear XX HX X4c X9c
    go_wp2
    generalize w5.alloc (.cells #[.int .i64 m.op, .int .i64 m.id, .slice A tl c, .int .i64 go, .int .i64 gi, .slice A3 b.length c3, .int .i64 go, .int .i64 m.id, .slice A3 b.length c3, .int .i64 go, .int .i64 gi, .slice (some ⟨gk, 0, none⟩) b.length c4, .int .i64 m.op, .int .i64 gi, .slice A3 b.length c3] 24) = w9 at *
    generalize w5.heap.size = b9 at *
    clear ak0 ak1 ak2 bk0 bk1 bk2 X4b X9l H5 G3
    obtain ⟨AX, hAX⟩ : ∃ AX, AX = (some ⟨b9, 0, none⟩ : Option Addr) := ⟨_, rfl⟩
    rw [← hAX] at M0 ⊢
    clear hAX
    go_loopw [13] (fun i wr => ∃ k : Nat, k ≤ 5 ∧ i = .int .i64 ((k : Nat) : Int) ∧ Bl w9 wr) (fun i _ => 5 - (intOf i).toNat)
    case atStart => exact ⟨0, by omega, rfl, Bl.refl _⟩
    case round =>
      obtain ⟨k, hk, rfl, G⟩ := hrel
      by_cases hlt : k < 5
      · have q1 : (k : Int) < 5 := by omega
        obtain ⟨bx, off, p, rfl, hp, x0, x1, x2, sv⟩ := (M0.out.bl G).at (k := k) (by rw [hXl.out]; exact hlt)
        obtain ⟨hpy, hpl⟩ := hok.out p (List.mem_of_getElem? hp)
        obtain ⟨⟨op, id, body⟩, v⟩ := p
        dsimp only at *
        obtain ⟨A5, c5, rfl, u1, u2, u3, u4⟩ := sv
        have cd := fun V (g : Bl wr V) => dec1 ⟨op, id, body⟩ A5 c5 V (u4.bl g) u1 u2 u3 hpy hpl
        have cr := fun V (g : Bl wr V) => rdec1 ⟨op, id, body⟩ A5 c5 V (u4.bl g) u1 u2 u3 hpy hpl
        have hdb := dec_by (m := ⟨op, id, body⟩) hpy
        unfold DecQ at cd cr
        generalize decR ⟨op, id, body⟩ = D at *
        obtain ⟨q, E⟩ := D
        dsimp only at *
        generalize body.length = n5 at *
        have ck := fun V d e (h1 : Sv V d q.d) (h2 : Sv V e q.d) => qlike1 q q d e V h1 h2 hdb hdb
        rw [sameQ_self] at ck
        unfold vQ at *
        clear u1 u2 u3 u4 hp M0 hok hpy hpl hdb
        go_wp2_with fail
        refine (cd _ (Bl.refl _)).mono ?_
        rintro e w10 ⟨d1, rfl, i1, g10⟩
        have v1 := i1.sv
        obtain ⟨B1, k1, rfl, _⟩ := i1.sv
        obtain ⟨nq, hnq⟩ : ∃ nq, nq = q.d.length := ⟨_, rfl⟩
        rw [← hnq] at v1 ⊢
        replace v1 := Lib.hid v1
        clear cd i1
        have H11 := g10.alloc (.cells #[.int .i64 q.op, .int .i64 q.id, .int .i64 q.a, .int .i64 q.b, .int .i64 q.x0, .int .i64 q.y0, .int .i64 q.x1, .int .i64 q.y1, .string q.s, .slice B1 nq k1] 36)
        have y0 := H11.keep x0
        have y1 := H11.keep x1
        have y2 := H11.keep x2
        have XQ := At.new w10 #[.int .i64 q.op, .int .i64 q.id, .int .i64 q.a, .int .i64 q.b, .int .i64 q.x0, .int .i64 q.y0, .int .i64 q.x1, .int .i64 q.y1, .string q.s, .slice B1 nq k1] 36
        replace hnq := Lib.hid hnq
        go_wp2_with fail
        refine (cr _ H11).mono ?_
        rintro e w12 ⟨d2, rfl, i2, g12⟩
        have v2 := i2.sv
        obtain ⟨B2, k2, rfl, _⟩ := i2.sv
        rw [← hnq.out] at v2 ⊢
        replace v2 := Lib.hid v2
        clear cr i2
        have XQ1 := (XQ.bl g12).alloc (.cells #[.int .i64 q.op, .int .i64 q.id, .int .i64 q.a, .int .i64 q.b, .int .i64 q.x0, .int .i64 q.y0, .int .i64 q.x1, .int .i64 q.y1, .string q.s, .slice B2 nq k2] 28)
        have XR1 := At.new w12 #[.int .i64 q.op, .int .i64 q.id, .int .i64 q.a, .int .i64 q.b, .int .i64 q.x0, .int .i64 q.y0, .int .i64 q.x1, .int .i64 q.y1, .string q.s, .slice B2 nq k2] 28
        have v1' := v1.out.bl (((Bl.refl w10).alloc (.cells #[.int .i64 q.op, .int .i64 q.id, .int .i64 q.a, .int .i64 q.b, .int .i64 q.x0, .int .i64 q.y0, .int .i64 q.x1, .int .i64 q.y1, .string q.s, .slice B1 nq k1] 36)).trans (g12.alloc (.cells #[.int .i64 q.op, .int .i64 q.id, .int .i64 q.a, .int .i64 q.b, .int .i64 q.x0, .int .i64 q.y0, .int .i64 q.x1, .int .i64 q.y1, .string q.s, .slice B2 nq k2] 28)))
        have v2' := v2.out.bl ((Bl.refl w12).alloc (.cells #[.int .i64 q.op, .int .i64 q.id, .int .i64 q.a, .int .i64 q.b, .int .i64 q.x0, .int .i64 q.y0, .int .i64 q.x1, .int .i64 q.y1, .string q.s, .slice B2 nq k2] 28))
        have H13 := (H11.trans g12).alloc (.cells #[.int .i64 q.op, .int .i64 q.id, .int .i64 q.a, .int .i64 q.b, .int .i64 q.x0, .int .i64 q.y0, .int .i64 q.x1, .int .i64 q.y1, .string q.s, .slice B2 nq k2] 28)
        have ckk := ck _ _ _ v1' v2'
        have ck0 : ((w12.alloc (.cells #[.int .i64 q.op, .int .i64 q.id, .int .i64 q.a, .int .i64 q.b, .int .i64 q.x0, .int .i64 q.y0, .int .i64 q.x1, .int .i64 q.y1, .string q.s, .slice B2 nq k2] 28))).cell? ⟨w10.heap.size, 0, none⟩ = some (.int .i64 q.op) := (XQ1.cell 0).trans rfl
        have ck1 : ((w12.alloc (.cells #[.int .i64 q.op, .int .i64 q.id, .int .i64 q.a, .int .i64 q.b, .int .i64 q.x0, .int .i64 q.y0, .int .i64 q.x1, .int .i64 q.y1, .string q.s, .slice B2 nq k2] 28))).cell? ⟨w10.heap.size, 1, none⟩ = some (.int .i64 q.id) := (XQ1.cell 1).trans rfl
        have ck2 : ((w12.alloc (.cells #[.int .i64 q.op, .int .i64 q.id, .int .i64 q.a, .int .i64 q.b, .int .i64 q.x0, .int .i64 q.y0, .int .i64 q.x1, .int .i64 q.y1, .string q.s, .slice B2 nq k2] 28))).cell? ⟨w10.heap.size, 2, none⟩ = some (.int .i64 q.a) := (XQ1.cell 2).trans rfl
        have ck3 : ((w12.alloc (.cells #[.int .i64 q.op, .int .i64 q.id, .int .i64 q.a, .int .i64 q.b, .int .i64 q.x0, .int .i64 q.y0, .int .i64 q.x1, .int .i64 q.y1, .string q.s, .slice B2 nq k2] 28))).cell? ⟨w10.heap.size, 3, none⟩ = some (.int .i64 q.b) := (XQ1.cell 3).trans rfl
        have ck4 : ((w12.alloc (.cells #[.int .i64 q.op, .int .i64 q.id, .int .i64 q.a, .int .i64 q.b, .int .i64 q.x0, .int .i64 q.y0, .int .i64 q.x1, .int .i64 q.y1, .string q.s, .slice B2 nq k2] 28))).cell? ⟨w10.heap.size, 4, none⟩ = some (.int .i64 q.x0) := (XQ1.cell 4).trans rfl
        have ck5 : ((w12.alloc (.cells #[.int .i64 q.op, .int .i64 q.id, .int .i64 q.a, .int .i64 q.b, .int .i64 q.x0, .int .i64 q.y0, .int .i64 q.x1, .int .i64 q.y1, .string q.s, .slice B2 nq k2] 28))).cell? ⟨w10.heap.size, 5, none⟩ = some (.int .i64 q.y0) := (XQ1.cell 5).trans rfl
        have ck6 : ((w12.alloc (.cells #[.int .i64 q.op, .int .i64 q.id, .int .i64 q.a, .int .i64 q.b, .int .i64 q.x0, .int .i64 q.y0, .int .i64 q.x1, .int .i64 q.y1, .string q.s, .slice B2 nq k2] 28))).cell? ⟨w10.heap.size, 6, none⟩ = some (.int .i64 q.x1) := (XQ1.cell 6).trans rfl
        have ck7 : ((w12.alloc (.cells #[.int .i64 q.op, .int .i64 q.id, .int .i64 q.a, .int .i64 q.b, .int .i64 q.x0, .int .i64 q.y0, .int .i64 q.x1, .int .i64 q.y1, .string q.s, .slice B2 nq k2] 28))).cell? ⟨w10.heap.size, 7, none⟩ = some (.int .i64 q.y1) := (XQ1.cell 7).trans rfl
        have ck8 : ((w12.alloc (.cells #[.int .i64 q.op, .int .i64 q.id, .int .i64 q.a, .int .i64 q.b, .int .i64 q.x0, .int .i64 q.y0, .int .i64 q.x1, .int .i64 q.y1, .string q.s, .slice B2 nq k2] 28))).cell? ⟨w10.heap.size, 8, none⟩ = some (.string q.s) := (XQ1.cell 8).trans rfl
        have ck9 : ((w12.alloc (.cells #[.int .i64 q.op, .int .i64 q.id, .int .i64 q.a, .int .i64 q.b, .int .i64 q.x0, .int .i64 q.y0, .int .i64 q.x1, .int .i64 q.y1, .string q.s, .slice B2 nq k2] 28))).cell? ⟨w10.heap.size, 9, none⟩ = some (.slice B1 nq k1) := (XQ1.cell 9).trans rfl
        have dk0 : ((w12.alloc (.cells #[.int .i64 q.op, .int .i64 q.id, .int .i64 q.a, .int .i64 q.b, .int .i64 q.x0, .int .i64 q.y0, .int .i64 q.x1, .int .i64 q.y1, .string q.s, .slice B2 nq k2] 28))).cell? ⟨w12.heap.size, 0, none⟩ = some (.int .i64 q.op) := (XR1.cell 0).trans rfl
        have dk1 : ((w12.alloc (.cells #[.int .i64 q.op, .int .i64 q.id, .int .i64 q.a, .int .i64 q.b, .int .i64 q.x0, .int .i64 q.y0, .int .i64 q.x1, .int .i64 q.y1, .string q.s, .slice B2 nq k2] 28))).cell? ⟨w12.heap.size, 1, none⟩ = some (.int .i64 q.id) := (XR1.cell 1).trans rfl
        have dk2 : ((w12.alloc (.cells #[.int .i64 q.op, .int .i64 q.id, .int .i64 q.a, .int .i64 q.b, .int .i64 q.x0, .int .i64 q.y0, .int .i64 q.x1, .int .i64 q.y1, .string q.s, .slice B2 nq k2] 28))).cell? ⟨w12.heap.size, 2, none⟩ = some (.int .i64 q.a) := (XR1.cell 2).trans rfl
        have dk3 : ((w12.alloc (.cells #[.int .i64 q.op, .int .i64 q.id, .int .i64 q.a, .int .i64 q.b, .int .i64 q.x0, .int .i64 q.y0, .int .i64 q.x1, .int .i64 q.y1, .string q.s, .slice B2 nq k2] 28))).cell? ⟨w12.heap.size, 3, none⟩ = some (.int .i64 q.b) := (XR1.cell 3).trans rfl
        have dk4 : ((w12.alloc (.cells #[.int .i64 q.op, .int .i64 q.id, .int .i64 q.a, .int .i64 q.b, .int .i64 q.x0, .int .i64 q.y0, .int .i64 q.x1, .int .i64 q.y1, .string q.s, .slice B2 nq k2] 28))).cell? ⟨w12.heap.size, 4, none⟩ = some (.int .i64 q.x0) := (XR1.cell 4).trans rfl
        have dk5 : ((w12.alloc (.cells #[.int .i64 q.op, .int .i64 q.id, .int .i64 q.a, .int .i64 q.b, .int .i64 q.x0, .int .i64 q.y0, .int .i64 q.x1, .int .i64 q.y1, .string q.s, .slice B2 nq k2] 28))).cell? ⟨w12.heap.size, 5, none⟩ = some (.int .i64 q.y0) := (XR1.cell 5).trans rfl
        have dk6 : ((w12.alloc (.cells #[.int .i64 q.op, .int .i64 q.id, .int .i64 q.a, .int .i64 q.b, .int .i64 q.x0, .int .i64 q.y0, .int .i64 q.x1, .int .i64 q.y1, .string q.s, .slice B2 nq k2] 28))).cell? ⟨w12.heap.size, 6, none⟩ = some (.int .i64 q.x1) := (XR1.cell 6).trans rfl
        have dk7 : ((w12.alloc (.cells #[.int .i64 q.op, .int .i64 q.id, .int .i64 q.a, .int .i64 q.b, .int .i64 q.x0, .int .i64 q.y0, .int .i64 q.x1, .int .i64 q.y1, .string q.s, .slice B2 nq k2] 28))).cell? ⟨w12.heap.size, 7, none⟩ = some (.int .i64 q.y1) := (XR1.cell 7).trans rfl
        have dk8 : ((w12.alloc (.cells #[.int .i64 q.op, .int .i64 q.id, .int .i64 q.a, .int .i64 q.b, .int .i64 q.x0, .int .i64 q.y0, .int .i64 q.x1, .int .i64 q.y1, .string q.s, .slice B2 nq k2] 28))).cell? ⟨w12.heap.size, 8, none⟩ = some (.string q.s) := (XR1.cell 8).trans rfl
        have dk9 : ((w12.alloc (.cells #[.int .i64 q.op, .int .i64 q.id, .int .i64 q.a, .int .i64 q.b, .int .i64 q.x0, .int .i64 q.y0, .int .i64 q.x1, .int .i64 q.y1, .string q.s, .slice B2 nq k2] 28))).cell? ⟨w12.heap.size, 9, none⟩ = some (.slice B2 nq k2) := (XR1.cell 9).trans rfl
        clear XQ XQ1 XR1 x0 x1 x2 y0 y1 y2 v1 v2 v1' v2' ck
        go_wp2_with fail
        refine ckk.mono ?_
        rintro e w13 ⟨rfl, g13⟩
        go_wp2
        go_roundw
        case rel => exact ⟨k + 1, by omega, by go_num, (G.trans H13).gr g13⟩
        case measure => simp [intOf]; omega
      · have q1 : ¬ (k : Int) < 5 := by omega
        go_wp2_with fail
        refine (cl _).mono ?_
        rintro e w20 ⟨rfl, g20⟩
        go_wp2
        go_ret
        exact ⟨by simp, (GX.out.trans G).trans g20⟩

end Go.Proofs.YthkbenhlhldglaaDoor
