/-
  What is proved: plain facts on what is drawn by parts. No conditions but bounds.
-/
import Derived.Test.YtafceieenhogpaaZo
namespace Go.Proofs.Ytafceieenhogpaa
open Go.RowKit Go.Sort

theorem near_len5 {R : List Rc} (h : IsReg R) (hi : InR near near R) : R.length ≤ 1296 := by
  obtain ⟨gb, eb⟩ := h.bands
  have h1 := rects_len gb.toWk (InR.bands gb (by rw [eb]; exact hi))
  rw [eb] at h1
  exact Nat.le_trans h1 (by simp [near])
theorem lyF_c32 (W H : Nat) (M : List Int) (s ax ay al : Int) (p : Int × Int) (q : Int) : C32 (lyF W H M s ax ay al p q) := ov_c32 _ _
theorem drawP_may (W : Nat) {f : Int × Int → Int → Int} (h1 : ∀ p q, C32 (f p q)) (h2 : ∀ p q, mayC q = true → mayC (f p q) = true) : ∀ (ps : List (Int × Int)) (L : List Int), MayL L → MayL (drawP W f L ps)
  | [], _, h => h
  | p :: ps, L, h => by
    show MayL (drawP W f (L.set _ _) ps)
    refine drawP_may W h1 h2 ps _ (mayL_set h (h1 _ _) (h2 _ _ ?_))
    rw [List.getD_eq_getElem?_getD]
    cases hq : L[ixP W p]? with
    | none => decide
    | some c => exact (h c (List.mem_of_getElem? hq)).2
/-- Points that are the same, but for their order, are drawn the same. -/
theorem drawP_perm {W H : Nat} (f : Int × Int → Int → Int) {ps qs : List (Int × Int)} (hp : ps.Perm qs) (hi : ∀ p ∈ ps, InP W H p) (L : List Int) : drawP W f L ps = drawP W f L qs := by
  refine List.Perm.foldl_eq' hp (fun p hp q hq M => ?_) L
  by_cases e : p = q
  · rw [e]
  · have hne : ixP W p ≠ ixP W q := fun h => e (ixP_inj (hi p hp) (hi q hq) h)
    simp only [List.getD_eq_getElem?_getD, List.getElem?_set_ne hne, List.getElem?_set_ne (Ne.symm hne)]
    exact (List.set_comm _ _ hne)
theorem drawP_app (W : Nat) (f : Int × Int → Int → Int) (ps qs : List (Int × Int)) (L : List Int) : drawP W f L (ps ++ qs) = drawP W f (drawP W f L ps) qs := by simp [drawP]
/-- What is drawn by two parts without a point in common. -/
theorem parts_of {W H : Nat} {S : Rc} (hS : ∀ x y, hasB S.a S.b S.c S.d x y = true → InP W H (x, y)) (f : Int × Int → Int → Int) (L : List Int) {a b u d R1 R2 R3 : List Rc}
    (hu : ∀ x y, hasL u x y = (hasL a x y || hasL b x y)) (hd : ∀ x y, hasL d x y = (hasL b x y && !hasL a x y))
    (h1 : OfQ g256 g256 (cutL S u) R1) (h2 : OfQ g256 g256 (cutL S a) R2) (h3 : OfQ g256 g256 (cutL S d) R3) :
    drawP W f L (ptsL R1) = drawP W f (drawP W f L (ptsL R2)) (ptsL R3) ∧ (ptsL R1).length = (ptsL R2).length + (ptsL R3).length := by
  have hn : (ptsL R2 ++ ptsL R3).Nodup := by
    rw [List.nodup_append]
    refine ⟨reg_nodup h2.reg, reg_nodup h3.reg, ?_⟩
    intro p hp q hq e
    subst e
    rw [ptsL_mem, h2.has, cutL_has] at hp
    rw [ptsL_mem, h3.has, cutL_has, hd] at hq
    simp at hp hq
    rw [hp.2] at hq
    simp at hq
  have hp : (ptsL R1).Perm (ptsL R2 ++ ptsL R3) := (List.perm_ext_iff_of_nodup (reg_nodup h1.reg) hn).2 fun p => by
    rw [List.mem_append, ptsL_mem, ptsL_mem, ptsL_mem, h1.has, h2.has, h3.has, cutL_has, cutL_has, cutL_has, hu, hd]
    cases hasB S.a S.b S.c S.d p.1 p.2 <;> cases hasL a p.1 p.2 <;> cases hasL b p.1 p.2 <;> simp
  refine ⟨?_, by rw [hp.length_eq, List.length_append]⟩
  rw [drawP_perm (H := H) f hp (fun p hp => by
    rw [ptsL_mem, h1.has, cutL_has] at hp
    exact hS p.1 p.2 (Bool.and_eq_true_iff.1 hp).1) L, drawP_app]
theorem OwR.by5 {w w' : World} {B k : Nat} {A : Option Addr} {c : Nat} {L : List Rc} (h : OwR w B A c L) (g : w.grownBy w' (some k)) (hk : k < B) : OwR w' B A c L :=
  h.grown g (by
    rcases h.lies with rfl | ⟨q, rfl, h1, _⟩
    · exact .inl rfl
    · exact .inr (by simp; omega))
theorem add_len {a b c : Nat} (h : a = b + c) (ha : a ≤ 100000) : wrap64 ((b : Int) + (c : Int)) = (a : Int) ∧ IntKind.i64.wrap ((b : Int) + (c : Int)) = (a : Int) := by
  constructor
  · rw [w64i (by omega) (by omega)]; omega
  · rw [IntWalk.i64_in _ (by omega)]; omega
theorem pts_in {W H : Nat} {S : Rc} (hS : ∀ x y, hasB S.a S.b S.c S.d x y = true → InP W H (x, y)) {a R : List Rc} (h : OfQ g256 g256 (cutL S a) R) (hW : 1 ≤ W) (hw : W ≤ 256) (hh : H ≤ 256) : (ptsL R).length ≤ 100000 :=
  pts_len hW hw hh (reg_nodup h.reg) (fun p hp => by
    rw [ptsL_mem, h.has, cutL_has] at hp
    exact hS p.1 p.2 (Bool.and_eq_true_iff.1 hp).1)
theorem lyCut_in (cp : Rc) (W2 H2 : Nat) {s : Int} (ax ay : Int) (W H : Nat) (hs : 1 ≤ s) (x y : Int) (h : hasB (lyCut cp W2 H2 s ax ay W H).a (lyCut cp W2 H2 s ax ay W H).b (lyCut cp W2 H2 s ax ay W H).c (lyCut cp W2 H2 s ax ay W H).d x y = true) : InP W H (x, y) := by
  rw [lyCut_has _ _ _ _ _ _ _ hs] at h
  have h2 := of_decide_eq_true (show decide (0 ≤ x ∧ x < (W : Int) ∧ 0 ≤ y ∧ y < (H : Int)) = true from (Bool.and_eq_true_iff.1 h).2)
  exact ⟨h2.1, h2.2.1, h2.2.2.1, h2.2.2.2⟩

end Go.Proofs.Ytafceieenhogpaa
