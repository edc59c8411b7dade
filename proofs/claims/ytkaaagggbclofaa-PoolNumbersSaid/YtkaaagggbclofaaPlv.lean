/-
  What is proved: the walk of the statement PoolNumbers. No conditions but what an argument is.
-/
import Derived.Test.YtkaaagggbclofaaPlm
import Derived.Test.YtkaaagggbclofaaZz2
import Derived.Test.YtkaaagggbclofaaWg
namespace Go.Proofs.Ytkaaagggbclofaa
open Go.ChangeShapes Go.WideShapes Go.ChangeAt Go.RowKit Go.Joins Go.Sort Go.Deep Go.Maps

theorem asc_few : ∀ (N : List Ik) (lo hi : Int), Asc N → (∀ p ∈ N, lo ≤ p.1 ∧ p.1 ≤ hi) → N.length = 0 ∨ (N.length : Int) ≤ hi - lo + 1
  | [], _, _, _, _ => .inl rfl
  | p :: N, lo, hi, h, hb => by
    right
    obtain ⟨h1, h2⟩ := List.pairwise_cons.1 h
    have hp := hb p (by simp)
    have := asc_few N (p.1 + 1) hi h2 (fun q hq => ⟨by have := h1 q hq; omega, (hb q (by simp [hq])).2⟩)
    rw [List.length_cons]
    rcases this with h | h <;> omega
/-- Named ones of at most four names. -/
theorem named_few {N : List Ik} {S : List Bf} (hN : NmQ N S) (h0 : ∀ s ∈ S, s.hd = 0) (hid : ∀ s ∈ S, 0 ≤ s.id ∧ s.id ≤ 3) : (thL S).length ≤ 4 := by
  have hp : (N.map fun p => p.2).Perm (thL S) := by
    refine (List.perm_ext_iff_of_nodup ?_ ((thL_asc S).imp (fun hlt => by omega))).2 fun x => ?_
    · unfold List.Nodup
      rw [List.pairwise_map]
      refine hN.asc.imp_of_mem (fun {p q} hp hq hlt => ?_)
      obtain ⟨k, s, e1, e2, _, e4⟩ := (hN.mem p.1 p.2).1 hp
      obtain ⟨k', s', f1, f2, _, f4⟩ := (hN.mem q.1 q.2).1 hq
      intro e
      have : k = k' := by omega
      subst this
      rw [e2] at f2; cases f2
      omega
    · rw [mem_thL, List.mem_map]
      constructor
      · rintro ⟨⟨i, n⟩, hp, rfl⟩
        obtain ⟨k, s, e1, e2, e3, _⟩ := (hN.mem i n).1 hp
        exact ⟨k, s, e1, e2, by simp [Bf.th, e3]⟩
      · rintro ⟨k, s, rfl, e2, e3⟩
        refine ⟨(s.id, (k : Int)), (hN.mem _ _).2 ⟨k, s, rfl, e2, ?_, rfl⟩, rfl⟩
        have := h0 s (List.mem_of_getElem? e2)
        simpa [Bf.th, this] using e3
  rw [← hp.length_eq, List.length_map]
  have := asc_few N 0 3 hN.asc (fun p hp => by
    obtain ⟨k, s, _, e2, _, e4⟩ := (hN.mem p.1 p.2).1 hp
    have := hid s (List.mem_of_getElem? e2)
    omega)
  omega
/-- Buffers that are held by none, of four names. -/
structure NumQ (S : List Bf) (j : Nat) : Prop where
  len : S.length = j
  hds : ∀ s ∈ S, s.hd = 0
  ids : ∀ s ∈ S, 0 ≤ s.id ∧ s.id ≤ 3
theorem NumQ.ds {S : List Bf} {j : Nat} (h : NumQ S j) (i : Int) : NumQ (dsS S i) j := by
  unfold dsS
  split
  · rename_i k hk
    obtain ⟨s, h2, _⟩ := plF_some hk
    rw [getD_at h2]
    have hs := List.mem_of_getElem? h2
    refine ⟨by rw [List.length_set]; exact h.len, fun x hx => ?_, fun x hx => ?_⟩
    all_goals rcases mem_put hx with hx | rfl
    · exact h.hds x hx
    · exact h.hds s hs
    · exact h.ids x hx
    · exact h.ids s hs
  · exact h
theorem plF_ds {N : List Ik} {S : List Bf} (hN : NmQ N S) (i : Int) : plF i (dsS S i) = none := by
  unfold dsS
  cases hf : plF i S with
  | none => exact hf
  | some k =>
    obtain ⟨s, h2, h3, h4⟩ := plF_some hf
    dsimp only
    rw [getD_at h2]
    have hl := (List.getElem?_eq_some_iff.1 h2).1
    refine plF_no fun j t hj ht => ?_
    rcases (getElem?_put hl).1 hj with ⟨rfl, rfl⟩ | ⟨hjk, hj⟩
    · cases ht.1
    · exact hjk (hN.one hj h2 ht.1 h3 (by rw [ht.2, h4]))
theorem plF_new {S : List Bf} {i W H : Int} (h : plF i S = none) : plF i (S ++ [newB i W H]) = some S.length :=
  plF_is (s := newB i W H) (getElem?_push.2 (.inr ⟨rfl, rfl⟩)) ⟨rfl, rfl⟩ fun j s hj hs => by
    rcases getElem?_push.1 hs with hs | ⟨rfl, _⟩
    · exact fun hc => plF_none h j s hs hc.1 hc.2
    · omega
theorem NumQ.push {S : List Bf} {j : Nat} (h : NumQ S j) {i W H : Int} (hi : 0 ≤ i ∧ i ≤ 3) : NumQ (S ++ [newB i W H]) (j + 1) := by
  refine ⟨by simp [h.len], fun x hx => ?_, fun x hx => ?_⟩
  all_goals rcases List.mem_append.1 hx with hx | hx
  all_goals try (rw [List.mem_singleton] at hx; subst hx)
  · exact h.hds x hx
  · rfl
  · exact h.ids x hx
  · exact hi

set_option maxRecDepth 100000 in
set_option maxHeartbeats 4000000 in
theorem numbers_core (Ad : Option Addr) (cd : Nat) (F : List Int) (w : World) (hF : shI.Rd w Ad F) (hG : ∀ d ∈ F, I64 d) : Calls Try.prog 6 #[.slice Ad F.length cd] w fun e w' => e = .returned (.bool true) ∧ Bl w w' := by
  have cl := fun V => plives1 V
  go_enter Try.func6, Try.ntmps6
  go_wp2_with fail
  refine (plNewL w w (Bl.refl w)).mono ?_
  rintro e w1 ⟨pp, nb, bb, rfl, L1⟩
  go_wp2_with fail
  go_loopw [4] (fun iv wr => ∃ (j : Nat) (S : List Bf) (Q : List Pq), j ≤ F.length ∧ j ≤ 20 ∧ iv = .int .i64 (j : Int) ∧ PlL w wr pp nb bb Q S (2 * j) ∧ NumQ S j) (fun iv _ => F.length - (intOf iv).toNat)
  case atStart => exact ⟨0, [], [], by omega, by omega, rfl, L1, ⟨rfl, by simp, by simp⟩⟩
  case round =>
    clear L1
    obtain ⟨j, S, Q, hj, hj20, rfl, L, hQ⟩ := hrel
    by_cases hlt : j < F.length ∧ j < 20
    · obtain ⟨hlt, hlt2⟩ := hlt
      obtain ⟨d, hd⟩ := list_at hlt
      obtain ⟨gb, off, rfl, hrow⟩ := hF.opened (by omega)
      have e0 := int_at (hrow.bl L.g) hd
      have hg := hG d (List.mem_of_getElem? hd)
      have cA := fun V => around1 d 4 V hg (by omega)
      have hb := around_bd d 4 (by omega)
      generalize around d 4 = i at *
      have hi : I64 i := by unfold I64; omega
      have q1 : decide ((j : Int) < (F.length : Int)) = true := by simpa using hlt
      have q2 : decide ((j : Int) < 20) = true := by simp; omega
      have hQ2 := hQ.ds i
      have hQ3 := hQ2.push (W := 1) (H := 2) (i := i) ⟨hb.1, by omega⟩
      have hf : plF i (dsS S i) = none := by
        obtain ⟨⟨N, M, _, h2, _⟩, _⟩ := L.r
        exact plF_ds h2 i
      have hf2 := plF_new (W := 1) (H := 2) hf
      have hl2 := hQ2.len
      have cD := plDestroy1 L.r (by omega) i hi
      have cM := Lib.hid (fun V Q' (h : PlR V pp nb bb Q' (dsS S i) (2 * j + 1)) => (show Calls Try.prog _ #[.pointer (some ⟨pp, 0, none⟩), .int .i64 i, .int .i64 1, .int .i64 2] V (PmQ V pp nb bb Q' (dsS S i ++ [newB i 1 2]) (2 * j + 1 + 1) (.tuple #[.int .i64 (j : Int), .int .i64 0])) from by
        have := plMakeN h (by omega) i 1 2 hi hf (by omega) (by omega) (by omega) (by omega)
        rw [hl2] at this
        exact this))
      have cF := Lib.hid (fun V Q' (h : PlR V pp nb bb Q' (dsS S i ++ [newB i 1 2]) (2 * j + 1 + 1)) => (show Calls Try.prog _ #[.pointer (some ⟨pp, 0, none⟩), .int .i64 i] V (Rt V (.tuple #[.int .i64 (j : Int), .int .i64 0])) from by
        have := plFind1 h i hi
        unfold plN fiE at this
        rw [hf2, hl2] at this
        exact this))
      generalize fiE S i = ev at *
      generalize dsS S i = S2 at *
      generalize newB i 1 2 = nB at *
      clear hQ hQ2 hf hf2 hl2 hd hg hrow hb
      go_wp2_with fail
      refine (cA _).mono ?_
      rintro e w' ⟨rfl, rfl⟩
      clear cA
      go_wp2_with fail
      refine cD.mono ?_
      rintro e v2 k2
      obtain ⟨rfl, L2⟩ := L.step k2
      clear k2 cD L e0
      go_wp2_with fail
      refine (cM.out _ _ L2.r).mono ?_
      rintro e v3 k3
      obtain ⟨Q3, rfl, L3⟩ := L2.stepM k3
      clear k3 cM L2
      go_wp2_with fail
      refine (cF.out _ _ L3.r).mono ?_
      rintro e v4 ⟨rfl, k4⟩
      have L4 := L3.bl k4.bl
      clear k4 cF L3
      go_wp2
      go_roundw
      case rel => exact ⟨j + 1, _, Q3, by omega, by omega, by go_num, L4, hQ3⟩
      case measure => simp [intOf]; omega
    · have hfew : (thL S).length ≤ 4 := by
        obtain ⟨⟨N, M, _, h2, _⟩, _⟩ := L.r
        exact named_few h2 hQ.hds hQ.ids
      have hbd : (decide ((j : Int) < (F.length : Int)) = false ∧ ¬ (j : Int) < (F.length : Int)) ∨ (decide ((j : Int) < (F.length : Int)) = true ∧ decide ((j : Int) < 20) = false ∧ j < F.length) := by
        rcases (show j = F.length ∨ (j < F.length ∧ 20 ≤ j) by omega) with h | h
        · exact .inl ⟨by simp; omega, by omega⟩
        · exact .inr ⟨by simp; omega, by simp; omega, h.1⟩
      have cT := plThere1 L.r (by omega)
      have q4 : decide ((thL S).length ≤ 4) = true := by simpa using hfew
      have q5 : decide (((thL S).length : Int) ≤ 4) = true := by simp; omega
      have g := L.g
      generalize (thL S).length = tn at *
      clear hlt hfew hQ
      replace hj := Lib.hid hj
      replace hj20 := Lib.hid hj20
      rcases hbd with ⟨h, h'⟩ | ⟨h, h', h''⟩
      all_goals
        go_wp2_with fail
        refine cT.mono ?_
        rintro e w3 ⟨A3, c3, rfl, _, k3⟩
        go_wp2_with fail
        refine (cl _).mono ?_
        rintro e w4 ⟨rfl, k4⟩
        go_wp2
        go_ret
        exact ⟨rfl, (g.trans k3).trans k4⟩

end Go.Proofs.Ytkaaagggbclofaa
