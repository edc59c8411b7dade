/-
  What is proved: plain facts: what Draw and Clear leave is what the document's leave. No conditions but bounds.
-/
import Derived.Test.YtafceieenhogpaaPe
import Derived.Test.YtafceieenhogpaaPg
namespace Go.Proofs.Ytafceieenhogpaa
open Go.RowKit Go.Sort

theorem upto_congr {f g : Nat → Int} {n : Nat} (h : ∀ k, k < n → f k = g k) : upto f n = upto g n := by
  unfold upto
  exact List.map_congr_left fun k hk => h k (List.mem_range.1 hk)
theorem draws_eq {W H : Nat} (hW : 1 ≤ W) {L : List Int} (hl : L.length = W * H) {cp : Rc} {W2 H2 : Nat} {M : List Int} {s ax ay al : Int} (hs : 1 ≤ s) {LW R : List Rc} (hQ : OfQ g256 g256 (cutL (lyCut cp W2 H2 s ax ay W H) LW) R) :
    drawP W (lyF W2 H2 M s ax ay al) L (ptsL R) = upto (fun i => if (lyHas cp W2 H2 s ax ay (i % W : Nat) (i / W : Nat) && hasL LW (i % W : Nat) (i / W : Nat)) then ov (lyCol cp W2 H2 M s ax ay al (i % W : Nat) (i / W : Nat)) (L.getD i 0) else L.getD i 0) L.length ∧
      (ptsL R).length = cntI (fun i => (lyHas cp W2 H2 s ax ay (i % W : Nat) (i / W : Nat) && hasL LW (i % W : Nat) (i / W : Nat))) L.length := by
  have hi : ∀ p ∈ ptsL R, InP W H p := fun p hp => by
    rw [ptsL_mem, hQ.has, cutL_has] at hp
    exact lyCut_in _ _ _ _ _ _ _ hs p.1 p.2 (Bool.and_eq_true_iff.1 hp).1
  have hP : ∀ i j : Nat, i < W → j < H → (((i : Int), (j : Int)) ∈ ptsL R ↔ (fun i j : Nat => lyHas cp W2 H2 s ax ay i j && hasL LW i j) i j = true) := fun i j h1 h2 => by
    rw [ptsL_mem, hQ.has, cutL_has, lyCut_has _ _ _ _ _ _ _ hs]
    have hb : hasB 0 0 W H (i : Int) (j : Int) = true := by unfold hasB; exact decide_eq_true (by omega)
    rw [hb, Bool.and_true]
  refine ⟨?_, by rw [pts_count hW (reg_nodup hQ.reg) hi _ hP, hl]⟩
  rw [drawP_upto hW hl (reg_nodup hQ.reg) hi (lyF W2 H2 M s ax ay al) _ hP]
  refine upto_congr fun k _ => ?_
  cases h : lyHas cp W2 H2 s ax ay (k % W : Nat) (k / W : Nat)
  · simp
  · cases h2 : hasL LW (k % W : Nat) (k / W : Nat)
    · simp
    · simp only [Bool.and_self, if_true]
      unfold lyF lyCol
      rw [if_pos h]
theorem clears_eq {W H : Nat} (hW : 1 ≤ W) {L : List Int} (hl : L.length = W * H) {q : Int} {LW R : List Rc} (hQ : OfQ g256 g256 (cutL ⟨0, 0, W, H⟩ LW) R) :
    drawP W (fun _ _ => q) L (ptsL R) = upto (fun i => if hasL LW (i % W : Nat) (i / W : Nat) then q else L.getD i 0) L.length ∧ (ptsL R).length = cntI (fun i => hasL LW (i % W : Nat) (i / W : Nat)) L.length := by
  have hi : ∀ p ∈ ptsL R, InP W H p := fun p hp => by
    rw [ptsL_mem, hQ.has, cutL_has] at hp
    have h3 := of_decide_eq_true (show decide (0 ≤ p.1 ∧ p.1 < (W : Int) ∧ 0 ≤ p.2 ∧ p.2 < (H : Int)) = true from (Bool.and_eq_true_iff.1 hp).1)
    exact ⟨h3.1, h3.2.1, h3.2.2.1, h3.2.2.2⟩
  have hP : ∀ i j : Nat, i < W → j < H → (((i : Int), (j : Int)) ∈ ptsL R ↔ (fun i j : Nat => hasL LW i j) i j = true) := fun i j h1 h2 => by
    rw [ptsL_mem, hQ.has, cutL_has]
    have hb : hasB (0 : Int) 0 W H (i : Int) (j : Int) = true := by unfold hasB; exact decide_eq_true (by omega)
    dsimp only
    rw [hb, Bool.true_and]
  exact ⟨drawP_upto hW hl (reg_nodup hQ.reg) hi (fun _ _ => q) _ hP, by rw [pts_count hW (reg_nodup hQ.reg) hi _ hP, hl]⟩
theorem upto_self (L : List Int) : upto (fun i => L.getD i 0) L.length = L := by
  apply List.ext_getElem?
  intro k
  rw [upto_get]
  by_cases h : k < L.length
  · rw [if_pos h, List.getD, List.getElem?_eq_getElem h]; rfl
  · rw [if_neg h, List.getElem?_eq_none (by omega)]

end Go.Proofs.Ytafceieenhogpaa
