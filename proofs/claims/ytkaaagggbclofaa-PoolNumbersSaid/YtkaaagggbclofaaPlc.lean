/-
  What is proved: what each function of package pool does to a pool that reads as a list of buffers. Conditions: at most 1000 buffers, none held more than 1000 times; numbers are ints.
-/
import Derived.Test.YtkaaagggbclofaaPlb
import Derived.Deep.RegionHeld3
namespace Go.Proofs.Ytkaaagggbclofaa
open Go.ChangeShapes Go.WideShapes Go.ChangeAt Go.RowKit Go.Joins Go.Sort Go.Deep Go.Maps

theorem plNew1 (w : World) : Calls Try.prog 7 #[] w fun e w' => ∃ pp nb bb, e = .returned (.pointer (some ⟨pp, 0, none⟩)) ∧ PlR w' pp nb bb [] [] 0 ∧ Bl w w' ∧ ∀ k, PlX pp nb bb [] k → w.heap.size ≤ k := by
  have hmm := @run_makeMap Try.prog
  go_enter Try.func7, Try.ntmps7
  go_wp2
  go_ret
  have g1 : Bl w (w.alloc (.map #[] 0)) := (Bl.refl w).alloc _
  have hm : Mp (w.alloc (.map #[] 0)) w.heap.size [] := World.ownsMap_made w _ _ _
  have hp : Pm ((w.alloc (.map #[] 0)).alloc (.map #[] 0)) (w.alloc (.map #[] 0)).heap.size [] := World.ownsMap_made (w.alloc (.map #[] 0)) _ _ _
  have e1 : (w.alloc (.map #[] 0)).heap.size = w.heap.size + 1 := by simp
  rw [e1] at hp
  refine ⟨w.heap.size + 2, w.heap.size, w.heap.size + 1, by simp, ⟨⟨[], [], ⟨At.newAt (by simp) _ _, (hm.bl ((Bl.refl _).alloc _)).bl ((Bl.refl _).alloc _), hp.bl ((Bl.refl _).alloc _), rfl, by simp, by simp, by omega⟩, NmQ.nil, ThQ.nil _⟩, OkS.nil⟩, (g1.alloc _).alloc _, ?_⟩
  rintro k (rfl | rfl | rfl | ⟨q, hq, _⟩)
  · omega
  · omega
  · omega
  · cases hq

section
variable {w : World} {pp nb bb n : Nat} {Q : List Pq} {S : List Bf}
theorem ThQ.no {M : List Ik} {bk : Nat → Nat} (h : ThQ M S bk) {m : Int} (ha : atS S m = none) : hasL M m = false := by
  rcases atS_none ha with h1 | h1 | ⟨k, s, rfl, h2, h3⟩
  · exact h.out (.inl h1)
  · exact h.out (.inr h1)
  · rw [h.has h2]; exact h3
def hdN (S : List Bf) (m : Int) : Int := match atS S m with | some k => ((S.getD k default).hd : Int) | none => 0
theorem plHeld1 (h : PlR w pp nb bb Q S n) (m : Int) (hm : I64 m) : Calls Try.prog 16 #[.pointer (some ⟨pp, 0, none⟩), .int .i64 m] w (Rt w (.int .i64 (hdN S m))) := by
  obtain ⟨⟨N, M, hs, hN, hM⟩, ok⟩ := h
  have c2 := hs.hd.cell 2
  have hbp := hs.bp
  unfold hdN
  cases ha : atS S m with
  | none =>
    have hno := hM.no ha
    clear ha hs
    go_enter Try.func16, Try.ntmps16
    go_wp2_with (first | (at_lookup; refine wp_lookP0 rfl _ _ rfl bb M m rfl rfl hbp hm hno ?_) | go_in)
    go_ret
    exact ⟨rfl, Gr.refl _⟩
  | some k =>
    obtain ⟨s, rfl, hk, ht, hg⟩ := atS_some ha
    obtain ⟨⟨qb, qm, qc⟩, hq⟩ := hs.q hk
    have d2 := (hs.bf k s _ hk hq).1.cell 2
    have h1 : kindL M k = qb := by rw [hM.kind hk ht, bkOf_at hq]
    have h2 : hasL M k = true := by rw [hM.has hk]; exact ht
    dsimp only
    rw [hg]
    dsimp only at d2
    clear ha hs hg
    generalize s.hd = sh at *
    go_enter Try.func16, Try.ntmps16
    go_wp2_with (first | (at_lookup; refine wp_lookP1 rfl _ _ rfl bb M k rfl rfl hbp hm qb h1 h2 ?_) | go_in)
    go_ret
    exact ⟨rfl, Gr.refl _⟩

theorem plFind1 (h : PlR w pp nb bb Q S n) (i : Int) (hi : I64 i) : Calls Try.prog 21 #[.pointer (some ⟨pp, 0, none⟩), .int .i64 i] w (Rt w (.tuple #[.int .i64 (plN i S), .int .i64 (fiE S i)])) := by
  obtain ⟨⟨N, M, hs, hN, hM⟩, ok⟩ := h
  have c1 := hs.hd.cell 1
  have hnp := hs.np
  have hh := hN.has i
  unfold plN fiE
  cases ha : plF i S with
  | none =>
    rw [ha] at hh
    clear hs ha
    obtain ⟨kk, hkk⟩ : ∃ kk, kk = kindL N i := ⟨_, rfl⟩
    replace hkk := hkk.symm
    go_enter Try.func21, Try.ntmps21
    go_wp2_with (first | (at_lookup; refine wp_lookN rfl _ _ rfl nb N i rfl rfl hnp hi kk hkk false hh ?_) | go_in)
    go_ret2
    exact ⟨rfl, Gr.refl _⟩
  | some k =>
    rw [ha] at hh
    have hkk := hN.kind ha
    clear hs ha
    go_enter Try.func21, Try.ntmps21
    go_wp2_with (first | (at_lookup; refine wp_lookN rfl _ _ rfl nb N i rfl rfl hnp hi k hkk true hh ?_) | go_in)
    go_ret2
    exact ⟨rfl, Gr.refl _⟩

theorem plImg0 (h : PlR w pp nb bb Q S n) (m : Int) (hm : I64 m) (ha : atS S m = none) : Calls Try.prog 18 #[.pointer (some ⟨pp, 0, none⟩), .int .i64 m] w (Rt w (.tuple #[.pointer none, .bool false])) := by
  obtain ⟨⟨N, M, hs, hN, hM⟩, ok⟩ := h
  have c2 := hs.hd.cell 2
  have hbp := hs.bp
  have hno := hM.no ha
  clear ha hs
  go_enter Try.func18, Try.ntmps18
  go_wp2_with (first | (at_lookup; refine wp_lookP0 rfl _ _ rfl bb M m rfl rfl hbp hm hno ?_) | go_in)
  go_ret2
  exact ⟨rfl, Gr.refl _⟩
theorem plImg1 (h : PlR w pp nb bb Q S n) (k : Nat) (s : Bf) (hm : I64 (k : Int)) (hk : S[k]? = some s) (ht : s.th = true) : ∃ qm qc, Img w qm qc s.W s.H s.L ∧ Calls Try.prog 18 #[.pointer (some ⟨pp, 0, none⟩), .int .i64 (k : Int)] w (Rt w (.tuple #[.pointer (some ⟨qm, 0, none⟩), .bool true])) := by
  obtain ⟨⟨N, M, hs, hN, hM⟩, ok⟩ := h
  have c2 := hs.hd.cell 2
  have hbp := hs.bp
  obtain ⟨⟨qb, qm, qc⟩, hq⟩ := hs.q hk
  have hb := hs.bf k s _ hk hq
  have d1 := hb.1.cell 1
  have h1 : kindL M k = qb := by rw [hM.kind hk ht, bkOf_at hq]
  have h2 : hasL M k = true := by rw [hM.has hk]; exact ht
  refine ⟨qm, qc, hb.2, ?_⟩
  dsimp only at d1
  clear hs hb
  go_enter Try.func18, Try.ntmps18
  go_wp2_with (first | (at_lookup; refine wp_lookP1 rfl _ _ rfl bb M k rfl rfl hbp hm qb h1 h2 ?_) | go_in)
  go_ret2
  exact ⟨rfl, Gr.refl _⟩

/-- What a step leaves. -/
def PlQ (w : World) (pp nb bb : Nat) (Q : List Pq) (S' : List Bf) (n : Nat) (v : Value) (e : Ending) (w' : World) : Prop := e = .returned v ∧ PlR w' pp nb bb Q S' n ∧ Kx (PlX pp nb bb Q) w w'
theorem PlX.q {pp nb bb : Nat} {Q : List Pq} {k : Nat} {q : Pq} (h : Q[k]? = some q) : PlX pp nb bb Q q.bk ∧ PlX pp nb bb Q q.pc := ⟨.inr (.inr (.inr ⟨q, List.mem_of_getElem? h, .inl rfl⟩)), .inr (.inr (.inr ⟨q, List.mem_of_getElem? h, .inr rfl⟩))⟩

theorem plHold1 (h : PlR w pp nb bb Q S n) (hn : n ≤ 1000) (m : Int) (hm : I64 m) : Calls Try.prog 13 #[.pointer (some ⟨pp, 0, none⟩), .int .i64 m] w (PlQ w pp nb bb Q (hoS S m) (n + 1) (.int .i64 (hoE S m))) := by
  have hok := h.ok.ho m
  have hup := h.up (Nat.le_succ n)
  obtain ⟨⟨N, M, hs, hN, hM⟩, ok⟩ := h
  have c2 := hs.hd.cell 2
  have hbp := hs.bp
  unfold hoS at hok
  unfold hoS hoE
  cases ha : atS S m with
  | none =>
    have hno := hM.no ha
    clear ha hs hok
    go_enter Try.func13, Try.ntmps13
    go_wp2_with (first | (at_lookup; refine wp_lookP0 rfl _ _ rfl bb M m rfl rfl hbp hm hno ?_) | go_in)
    go_ret
    exact ⟨rfl, hup, Kx.refl _ _⟩
  | some k =>
    rw [ha] at hok
    dsimp only at hok ⊢
    obtain ⟨s, rfl, hk, ht, hg⟩ := atS_some ha
    rw [hg] at hok ⊢
    obtain ⟨q, hq⟩ := hs.q hk
    have hb := (hs.bf k s q hk hq).1
    have d2 := hb.cell 2
    have f2 := hb.free 2
    have h1 : kindL M k = q.bk := by rw [hM.kind hk ht, bkOf_at hq]
    have h2 : hasL M k = true := by rw [hM.has hk]; exact ht
    have hle := ok.hds s (List.mem_of_getElem? hk)
    have w1 : wrap64 ((s.hd : Int) + 1) = ((s.hd + 1 : Nat) : Int) := by rw [Int.natCast_add]; exact w64 (by omega) (by omega)
    have w2 : IntKind.i64.wrap ((s.hd : Int) + 1) = ((s.hd + 1 : Nat) : Int) := by rw [Int.natCast_add]; exact IntWalk.i64_in _ (by omega)
    have hs' := hs.held hk hq (s.hd + 1)
    have hX := (PlX.q (pp := pp) (nb := nb) (bb := bb) hq).1
    have hthn : ({ s with hd := s.hd + 1 } : Bf).th = s.th := by rw [ht]; simp [Bf.th]
    have post : PlQ w pp nb bb Q (S.set k { s with hd := s.hd + 1 }) (n + 1) (.int .i64 0) (.returned (.int .i64 0)) (w.setCell ⟨q.bk, 2, none⟩ (.int .i64 ((s.hd + 1 : Nat) : Int))) :=
      ⟨rfl, ⟨⟨N, M, hs', hN.put hk rfl rfl, hM.put hk hthn⟩, hok⟩, Kx.by (By.set (p := ⟨q.bk, 2, none⟩) (By.refl w _) _) hX⟩
    generalize s.hd + 1 = s1 at *
    generalize s.hd = sh at *
    generalize q.bk = qb at *
    clear ha hs hg hb hs' hok hthn
    replace post := Lib.hid post
    go_enter Try.func13, Try.ntmps13
    go_wp2_with (first | (at_lookup; refine wp_lookP1 rfl _ _ rfl bb M k rfl rfl hbp hm qb h1 h2 ?_) | go_in)
    go_ret
    exact post.out
end

end Go.Proofs.Ytkaaagggbclofaa
