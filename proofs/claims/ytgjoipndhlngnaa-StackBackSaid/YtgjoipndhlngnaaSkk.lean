/-
  What is proved: what slices.Reverse does to a row of keys. Conditions: bounds on lengths.
-/
import Derived.Test.YtgjoipndhlngnaaSkj
namespace Go.Proofs.Ytgjoipndhlngnaa
open Go.ChangeShapes Go.WideShapes Go.ChangeAt Go.RowKit Go.Joins Go.Sort Go.Deep Go.Shelf Go.Lib


/-- The first i and the last i elements have been turned round. -/
def RvQ (L M : List Ky) (i : Nat) : Prop := M.length = L.length ∧ ∀ k, k < L.length → M[k]? = if k < i ∨ L.length - i ≤ k then L[L.length - 1 - k]? else L[k]?
theorem RvQ.start (L : List Ky) : RvQ L L 0 := ⟨rfl, fun k hk => by rw [if_neg (by omega)]⟩
theorem RvQ.step {L M : List Ky} {i j : Nat} (h : RvQ L M i) (hj : j + i + 1 = L.length) (hij : i < j) {x y : Ky} (hx : M[i]? = some x) (hy : M[j]? = some y) : RvQ L ((M.set i y).set j x) (i + 1) := by
  obtain ⟨h1, h2⟩ := h
  refine ⟨by simp [h1], fun k hk => ?_⟩
  have e1 := h2 i (by omega)
  rw [if_neg (by omega), hx] at e1
  have e2 := h2 j (by omega)
  rw [if_neg (by omega), hy] at e2
  by_cases hkj : j = k
  · subst hkj
    rw [List.getElem?_set_self (by simp; omega), if_pos (by omega), e1]
    congr 1; omega
  · rw [List.getElem?_set_ne hkj]
    by_cases hki : i = k
    · subst hki
      rw [List.getElem?_set_self (by omega), if_pos (by omega), e2]
      congr 1; omega
    · rw [List.getElem?_set_ne hki, h2 k hk]
      by_cases hc : k < i ∨ L.length - i ≤ k
      · rw [if_pos hc, if_pos (by omega)]
      · rw [if_neg hc, if_neg (by omega)]
theorem RvQ.done {L M : List Ky} {i : Nat} (h : RvQ L M i) (hi : L.length ≤ 2 * i + 1) : M = L.reverse := by
  obtain ⟨h1, h2⟩ := h
  apply List.ext_getElem?
  intro k
  by_cases hk : k < L.length
  · rw [List.getElem?_reverse hk, h2 k hk]
    by_cases hc : k < i ∨ L.length - i ≤ k
    · rw [if_pos hc]
    · rw [if_neg hc]
      congr 1; omega
  · rw [List.getElem?_eq_none (by omega), List.getElem?_eq_none (by simp; omega)]

set_option maxRecDepth 100000 in
set_option maxHeartbeats 4000000 in
theorem revK {w : World} {B c : Nat} {A : Option Addr} {L : List Ky} (h : OwP w B A c L) (hl : L.length ≤ 100000) :
    Calls Try.prog 35 #[.slice A L.length c] w fun e w' => e = .returned (.tuple #[]) ∧ OwP w' B A c L.reverse ∧ w.grownBy w' (A.map (·.block)) := by
  obtain ⟨N, hN⟩ : ∃ N, N = L.length := ⟨_, rfl⟩
  rw [← hN] at hl ⊢
  replace hN := Lib.hid hN
  go_enter Try.func35, Try.ntmps35
  go_wp2
  go_loopw [2, 3] (fun s2 s3 wr => ∃ (i : Nat) (M : List Ky), 2 * i ≤ N ∧ s2 = .int .i64 i ∧ s3 = .int .i64 ((N : Int) - 1 - i) ∧ OwP wr B A c M ∧ Hid (RvQ L M i) ∧ w.grownBy wr (A.map (·.block))) (fun s2 _ _ => N - (RowKit.intOf s2).toNat)
  case atStart => exact ⟨0, L, by omega, rfl, by simp, h, Lib.hid (RvQ.start L), By.refl _ _⟩
  case round =>
    obtain ⟨i, M, hi, rfl, rfl, own, hQ, G⟩ := hrel
    by_cases hlt : 2 * i + 1 < N
    · obtain ⟨j, hj⟩ : ∃ j, j + i + 1 = N := ⟨N - 1 - i, by omega⟩
      have hij : i < j := by omega
      have hjz : (N : Int) - 1 - (i : Int) = (j : Int) := by omega
      rw [hjz]
      have hMl : M.length = N := by rw [hQ.out.1, hN.out]
      obtain ⟨x, hx⟩ := list_at (show i < M.length by omega)
      obtain ⟨y, hy⟩ := list_at (show j < M.length by omega)
      have hQ2 := Lib.hid (hQ.out.step (by rw [← hN.out]; exact hj) hij hx hy)
      obtain ⟨g, rfl⟩ : ∃ g, A = some ⟨g, 0, none⟩ := by
        rcases own.lies with rfl | ⟨g, rfl, _⟩
        · rcases own.2 with ⟨e, _⟩ | ⟨_, _, _, e, _⟩
          · injection e with _ e _; omega
          · cases e
        · exact ⟨g, rfl⟩
      obtain ⟨b, off, hba, hrow⟩ := own.rd.opened (by omega)
      injection hba with hba
      injection hba with hba hba2
      subst hba hba2
      obtain ⟨c1, c2⟩ := k_at hrow hx
      obtain ⟨c3, c4⟩ := k_at hrow hy
      simp only [Nat.zero_add] at c1 c2 c3 c4
      have f1 := own.free (i * 2)
      have f2 := own.free (i * 2 + 1)
      have f3 := own.free (j * 2)
      have f4 := own.free (j * 2 + 1)
      have hiN : i < N := by omega
      have hjN : j < N := by omega
      have hijz : (i : Int) < (j : Int) := by omega
      have P1 := (own.putAt (k := i) (by omega) y).putAt (k := j) (by rw [List.length_set]; omega) x
      have P2 := By.trans (By.trans G (setCells_by (shK.c y) wr (i * 2))) (setCells_by (shK.c x) _ (j * 2))
      have hne1 : i * 2 ≠ j * 2 := by omega
      have hne2 : i * 2 + 1 ≠ j * 2 := by omega
      have hne3 : i * 2 ≠ j * 2 + 1 := by omega
      have hne4 : i * 2 + 1 ≠ j * 2 + 1 := by omega
      clear hrow hx hy hMl own
      replace hjz := Lib.hid hjz
      replace hi := Lib.hid hi
      replace hlt := Lib.hid hlt
      go_wp2_with fail
      go_region
      go_wp2
      go_roundw
      case rel => exact ⟨i + 1, _, by have := hlt.out; omega, by go_num, by have := hj; congr 1; omega, P1.bl (Bl.refl _).drew, hQ2, By.trans P2 ((Bl.refl _).drew.byr _)⟩
      case measure => simp [RowKit.intOf]; omega
    · have hnl : ¬ ((i : Int) < (N : Int) - 1 - (i : Int)) := by omega
      have hf := hQ.out.done (by have := hN.out; omega)
      subst hf
      go_wp2
      go_end0
      exact ⟨rfl, own, G⟩

end Go.Proofs.Ytgjoipndhlngnaa
