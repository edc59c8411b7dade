/-
  What is proved: what Read of package event hands back of any bytes. One condition: the table of shapes reads as its initialiser lays it.
-/
import Derived.Test.YthkbenhlhldglaaDoorDi
import Derived.Test.YthkbenhlhldglaaDoorOjb
namespace Go.Proofs.YthkbenhlhldglaaDoor
open Go.RowKit Go.Sort

theorem rdL_nf : ∀ l : List Ms, (rdL l).2 ≠ 0 → (rdL l).1 = []
  | [], h => absurd rfl h
  | m :: l, h => by
    unfold rdL at h ⊢
    by_cases h1 : (decE m).2 = 0
    · rw [if_pos h1] at h ⊢
      by_cases h2 : (rdL l).2 = 0
      · rw [if_pos h2] at h; exact absurd rfl h
      · rw [if_neg h2]
    · rw [if_neg h1]
/-- What was read so far, and what is left to read, is what all is. -/
def Rdu (ms : List Ms) (k : Nat) (L : List Ev) : Prop := rdL ms = if (rdL (ms.drop k)).2 = 0 then (L ++ (rdL (ms.drop k)).1, 0) else ([], (rdL (ms.drop k)).2)
theorem Rdu.zero (ms : List Ms) : Rdu ms 0 [] := by
  unfold Rdu
  rw [List.drop_zero]
  split
  · rename_i h; exact Prod.ext rfl h
  · rename_i h; exact Prod.ext (rdL_nf ms h) rfl
theorem Rdu.step {ms : List Ms} {k : Nat} {L : List Ev} {m : Ms} (h : Rdu ms k L) (hm : ms[k]? = some m) (h0 : (decE m).2 = 0) : Rdu ms (k + 1) (L ++ [(decE m).1]) := by
  unfold Rdu at *
  rw [h, drop_at hm]
  have e : rdL (m :: ms.drop (k + 1)) = if (rdL (ms.drop (k + 1))).2 = 0 then ((decE m).1 :: (rdL (ms.drop (k + 1))).1, 0) else ([], (rdL (ms.drop (k + 1))).2) := by
    rw [rdL, if_pos h0]
  rw [e]
  by_cases h2 : (rdL (ms.drop (k + 1))).2 = 0
  · rw [if_pos h2, if_pos h2, if_pos rfl]; simp
  · rw [if_neg h2, if_neg h2, if_neg h2]
theorem Rdu.bad {ms : List Ms} {k : Nat} {L : List Ev} {m : Ms} (h : Rdu ms k L) (hm : ms[k]? = some m) (h0 : (decE m).2 ≠ 0) : rdL ms = ([], (decE m).2) := by
  unfold Rdu at *
  rw [h, drop_at hm]
  have e : rdL (m :: ms.drop (k + 1)) = ([], (decE m).2) := by rw [rdL, if_neg h0]
  rw [e, if_neg h0]
theorem Rdu.all {ms : List Ms} {k : Nat} {L : List Ev} (h : Rdu ms k L) (hk : ms.length ≤ k) : rdL ms = (L, 0) := by
  unfold Rdu at *
  rw [h, List.drop_eq_nil_of_le hk]
  show (if (0 : Int) = 0 then (L ++ [], (0 : Int)) else _) = _
  rw [if_pos rfl, List.append_nil]
theorem Rdu.len {ms : List Ms} {k : Nat} {L : List Ev} (_h : Rdu ms k L) : True := trivial
/-- Events that were read. -/
def RdEQ (w : World) (p : List Ev × Int) (x : Ending) (w' : World) : Prop := ∃ A c, x = .returned (.tuple #[.slice A p.1.length c, .int .i64 p.2]) ∧ Es w' A p.1 ∧ (A = none → p.1 = []) ∧ Bl w w'
theorem RdEQ.none {w w' : World} {e : Int} (g : Bl w w') : RdEQ w ([], e) (.returned (.tuple #[.slice none 0 0, .int .i64 e])) w' := ⟨Option.none, 0, rfl, .inl rfl, fun _ => rfl, g⟩
theorem OwEv.nilE {t : TypeId} {w : World} {B : Nat} {A : Option Addr} {c : Nat} {L : List Ev} (h : OwEv t w B A c L) : A = Option.none → L = [] := fun hA => by
  rcases h.es with h' | ⟨b, off, h', _⟩
  · exact h'
  · rw [hA] at h'; cases h'
set_option maxRecDepth 100000 in
set_option maxHeartbeats 2000000 in
theorem evRead1 (A0 : Option Addr) (c0 : Nat) (B : List Int) (w : World) (hS : Sh w) (hA : RwB w A0 B) (hc : B.length ≤ c0) (hcm : c0 ≤ maxLen) (hb : ByL B) (hl : B.length ≤ 1000000) : Calls Tryd.prog 33 #[.slice A0 B.length c0] w (RdEQ w (readE B)) := by
  have cs := fsplit1 A0 c0 B w hA hc hcm hb hl
  have hin := spl_in B.length B (Nat.le_refl _) hb
  have hfew := spl_few B
  unfold SpQ at cs
  have hrd : readE B = if (rdL (spl B).1).2 = 0 then (if (spl B).2.2 = 0 then ((rdL (spl B).1).1, 0) else ([], (spl B).2.2)) else ([], (rdL (spl B).1).2) := rfl
  generalize readE B = RR at *
  generalize (spl B).1 = ms at *
  generalize (spl B).2.1 = used at *
  generalize (spl B).2.2 = ee at *
  generalize B.length = n0 at *
  have zn : ∀ k m, ms[k]? = some m → ∀ L, Rdu ms k L → (decE m).2 ≠ 0 → ∀ V, Bl w V → RdEQ w RR (.returned (.tuple #[.slice none 0 0, .int .i64 (decE m).2])) V := fun k m hm L hu h0 V g => by
    rw [hrd, hu.bad hm h0, if_neg h0]; exact RdEQ.none g
  have ze : ∀ k L, Rdu ms k L → ms.length ≤ k → ee ≠ 0 → ∀ V, Bl w V → RdEQ w RR (.returned (.tuple #[.slice none 0 0, .int .i64 ee])) V := fun k L hu hk h0 V g => by
    rw [hrd, hu.all hk, if_pos rfl, if_neg h0]; exact RdEQ.none g
  have zz : ∀ k L, Rdu ms k L → ms.length ≤ k → ee = 0 → RR = (L, 0) := fun k L hu hk h0 => by
    rw [hrd, hu.all hk, if_pos rfl, if_pos h0]
  generalize hZ : RdEQ w RR = Z at *
  replace hZ := Lib.hid hZ
  replace hin := Lib.hid hin
  clear hrd hA hc hcm hb
  go_enter Tryd.func33, Tryd.ntmps33
  go_wp2_with fail
  refine cs.mono ?_
  rintro e w1 ⟨A1, c1, X, rfl, hX, hM, _, _, _, g1⟩
  obtain ⟨n, hn⟩ : ∃ n, n = X.length := ⟨_, rfl⟩
  have hnm : n = ms.length := by rw [hn, ← hX, List.length_map]
  rw [← hn]
  have hnl : n ≤ 1000000 := by omega
  have hS1 := hS.bl g1
  replace hn := Lib.hid hn
  replace hnm := Lib.hid hnm
  replace hX := Lib.hid hX
  replace zn := Lib.hid zn
  replace ze := Lib.hid ze
  replace zz := Lib.hid zz
  clear cs hfew
  go_wp2
  go_loopw [7, 20] (fun o i wr => ∃ (k : Nat) (A : Option Addr) (c : Nat) (L : List Ev), k ≤ n ∧ o = .slice A L.length c ∧ i = .int .i64 ((k : Nat) : Int) ∧ OwEv 65 wr w1.heap.size A c L ∧ Bl w1 wr ∧ Hid (Rdu ms k L) ∧ Hid (L.length = k)) (fun _ i _ => n - (intOf i).toNat)
  case atStart => exact ⟨0, none, 0, [], Nat.zero_le _, rfl, rfl, OwEv.nil _ _ _, Bl.refl _, Lib.hid (Rdu.zero ms), Lib.hid rfl⟩
  case round =>
    obtain ⟨k, A, c, L, hk, rfl, rfl, own, G, hu, hLk⟩ := hrel
    have hLl : L.length ≤ 1000000 := by have := hLk.out; omega
    by_cases hlt : k < n
    · have q1 : (k : Int) < n := by omega
      obtain ⟨b, off, p, rfl, hp, x0, x1, x2, sv⟩ := (hM.bl G).at (k := k) (by rw [← hn.out]; exact hlt)
      have hm : ms[k]? = some p.1 := by rw [← hX.out, List.getElem?_map, hp]; rfl
      have hi := hin.out p.1 (List.mem_of_getElem? hm)
      obtain ⟨⟨op, id, body⟩, v⟩ := p
      dsimp only at *
      obtain ⟨A5, c5, rfl, s5⟩ := sv
      have sv : Sv wr (.slice A5 body.length c5) body := ⟨A5, c5, rfl, s5⟩
      have cd := fun V (g : Bl wr V) => decE1 ⟨op, id, body⟩ A5 c5 V (hS1.bl (G.trans g)) hi (sv.bl g)
      unfold DecEQ vE at cd
      dsimp only at cd
      have zn' := Lib.hid (zn.out k _ hm L hu.out)
      have hst := Lib.hid (fun h => hu.out.step hm h)
      generalize decE ⟨op, id, body⟩ = D at *
      obtain ⟨⟨dk, did, da, db⟩, de⟩ := D
      dsimp only at *
      generalize body.length = nb at *
      replace cd := Lib.hid cd
      clear sv s5 hi hm hp
      go_wp2_with fail
      refine (cd.out _ ((Bl.refl wr).alloc _)).mono ?_
      rintro e w2 ⟨rfl, g2⟩
      have H2 := ((Bl.refl wr).alloc (.cells #[.int .i64 op, .int .i64 id, .slice A5 nb c5] 24)).trans g2
      clear cd x0 x1 x2
      by_cases h0 : de = 0
      · subst h0
        have hs1 := Lib.hid (hst.out rfl)
        have E3 := (At.new w2 #[.int .i64 dk, .int .i64 did, .int .i64 da, .int .i64 db] 65)
        have H3 := H2.alloc (.cells #[.int .i64 dk, .int .i64 did, .int .i64 da, .int .i64 db] 65)
        have own3 := (own.bl H3).bl ((Bl.refl _).alloc (.cells #[.int .i64 dk, .int .i64 did, .int .i64 da, .int .i64 db] 65))
        have E4 := At.newAt (w := w2.alloc (.cells #[.int .i64 dk, .int .i64 did, .int .i64 da, .int .i64 db] 65)) (n := w2.heap.size + 1) (by simp) #[.int .i64 dk, .int .i64 did, .int .i64 da, .int .i64 db] 65
        have G4 : Bl w1 ((w2.alloc (.cells #[.int .i64 dk, .int .i64 did, .int .i64 da, .int .i64 db] 65)).alloc (.cells #[.int .i64 dk, .int .i64 did, .int .i64 da, .int .i64 db] 65)) := (G.trans H3).alloc _
        obtain ⟨k0, k1, k2, k3⟩ := cells4E E3
        clear zn' hst hM hS1 ze zz zn
        go_wp2_with (at_builtin; refine wp_app_ev rfl (.tmp 32) (.tmp 34) rfl A c L rfl w1.heap.size own3 (w2.heap.size + 1) ⟨dk, did, da, db⟩ rfl E4 (by omega) G4.size ?_; intro A2 c2 w4 own4 by2; have G5 := app_bl by2 G4 (ow_lies own3) (Nat.le_refl _))
        go_roundw
        case rel => exact ⟨k + 1, A2, c2, L ++ [⟨dk, did, da, db⟩], by omega, by simp, by go_num, own4, G5, hs1, by have := hLk.out; exact Lib.hid (by simp; omega)⟩
        case measure => simp [intOf]; omega
      · have ex := Lib.hid (fun V g => zn'.out h0 V g)
        have hne : (de == 0) = false := by simpa using h0
        clear zn' hst hM hS1 ze zz zn
        go_wp2
        exact ex.out _ ((g1.trans (G.trans H2)).alloc _)
    · obtain rfl : k = n := by omega
      have q1 : ¬ (k : Int) < k := by omega
      have hkm : ms.length ≤ k := by rw [← hnm.out]; exact Nat.le_refl _
      by_cases h0 : ee = 0
      · subst h0
        have hR := zz.out k L hu.out hkm rfl
        have ex : Z (.returned (.tuple #[.slice A L.length c, .int .i64 0])) wr := by
          rw [← hZ.out, hR]
          exact ⟨A, c, rfl, own.es, own.nilE, g1.trans G⟩
        replace ex := Lib.hid ex
        clear zn ze zz hM hS1 hR
        go_wp2
        exact ex.out
      · have ex := Lib.hid (ze.out k L hu.out hkm h0 wr (g1.trans G))
        have hne : (ee == 0) = false := by simpa using h0
        clear zn ze zz hM hS1
        go_wp2
        exact ex.out

end Go.Proofs.YthkbenhlhldglaaDoor
