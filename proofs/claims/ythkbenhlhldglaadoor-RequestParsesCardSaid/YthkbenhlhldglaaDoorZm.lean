/-
  What is proved: what Encode of package request hands back of any request. No conditions but bounds.
-/
import Derived.Test.YthkbenhlhldglaaDoorMk
import Derived.Test.YthkbenhlhldglaaDoorZi
import Derived.Test.YthkbenhlhldglaaDoorMd
import Derived.Deep.RegionHeld3
namespace Go.Proofs.YthkbenhlhldglaaDoor
open Go.RowKit Go.Sort
attribute [local go_sem] run_store_nf run_store_fn

theorem gv_by {c : UInt8} {b : List Int} (h : ByL b) : ByL (gv c b).b := by
  unfold gv
  repeat' split
  all_goals first | exact ByL.nil | exact h
theorem unA_by : ∀ (f : List UInt8) (X : List Av) (b : List Int), ByL b → (∀ v ∈ X, ByL v.b) → ∀ v ∈ (unA X f b).1, ByL v.b
  | [], X, b, _, h => by
    unfold unA
    split
    · exact h
    · intro v hv; simp at hv
  | c :: f, X, b, hb, h => by
    unfold unA
    split
    · intro v hv; simp at hv
    · refine unA_by f _ _ (hb.drop _) fun v hv => ?_
      rcases List.mem_append.1 hv with hv | hv
      · exact h v hv
      · simp at hv; subst hv; exact gv_by hb
theorem setL_by : ∀ (l : List Av) (r : Rq) (i : Nat), ByL r.d → (∀ v ∈ l, ByL v.b) → ByL (setL r i l).d
  | [], r, i, h, _ => h
  | v :: l, r, i, h, hl => setL_by l _ _ (by
      unfold setA
      repeat' split
      all_goals first | exact h | exact hl v (by simp)) fun u hu => hl u (by simp [hu])
theorem dec_by {m : Ms} (h : ByL m.body) : ByL (decR m).1.d := by
  unfold decR
  split
  · unfold decU
    split
    · split
      · refine setL_by _ _ _ ByL.nil ?_
        unfold unR
        split
        · exact unA_by _ [] _ h fun v hv => by simp at hv
        · intro v hv; simp at hv
      · exact ByL.nil
    · exact ByL.nil
  · exact ByL.nil
theorem far_msg {w : World} {b : Nat} {u v : Int} {A A9 : Option Addr} {n c m c9 : Nat} {t : TypeId} {L : List Int} (hX : At w b #[.int .i64 u, .int .i64 v, .slice A n c] t) (hs : Sv w (.slice A9 m c9) L) : Far L (.slice A9 m c9) (some b) := by
  obtain ⟨A', c', h0, _, _, _, hr⟩ := hs
  injection h0 with e1 e2 e3
  subst e1
  rcases hr with h | ⟨b', off, rfl, hr⟩
  · exact .inl h
  · cases L with
    | nil => exact .inl rfl
    | cons x L =>
      refine .inr (.inr fun e => ?_)
      have e' : b' = b := by simpa [Value.ownBlock] using e
      subst e'
      have h1 := hr 0 x rfl
      rw [Nat.add_zero, hX.cell off] at h1
      match off, h1 with
      | 0, h1 => simp at h1
      | 1, h1 => simp at h1
      | 2, h1 => simp at h1
      | k + 3, h1 => simp at h1
/-- A message that was written. -/
def EncQ (w : World) (p : Ms × Int) (e : Ending) (w' : World) : Prop := ∃ v, e = .returned (.tuple #[.agg #[.int .i64 p.1.op, .int .i64 p.1.id, v], .int .i64 p.2]) ∧ Sv w' v p.1.body ∧ Bl w w'
theorem put3_at {w : World} {b : Nat} {z0 z1 z2 : Value} {t : TypeId} (h : At w b #[z0, z1, z2] t) (u0 u1 u2 : Value) : At (((w.setCell ⟨b, 0, none⟩ u0).setCell ⟨b, 1, none⟩ u1).setCell ⟨b, 2, none⟩ u2) b #[u0, u1, u2] t := by
  have := ((h.put 0 u0).put 1 u1).put 2 u2
  unfold At at *
  simpa using this
theorem put3_bl {a w : World} {b : Nat} (h : Bl a w) (hb : a.heap.size ≤ b) (u0 u1 u2 : Value) : Bl a (((w.setCell ⟨b, 0, none⟩ u0).setCell ⟨b, 1, none⟩ u1).setCell ⟨b, 2, none⟩ u2) :=
  ((h.setCell (p := ⟨b, 0, none⟩) hb u0).setCell (p := ⟨b, 1, none⟩) hb u1).setCell (p := ⟨b, 2, none⟩) hb u2
theorem put3_by {a w : World} {b : Nat} (h : a.grownBy w (some b)) (u0 u1 u2 : Value) : a.grownBy (((w.setCell ⟨b, 0, none⟩ u0).setCell ⟨b, 1, none⟩ u1).setCell ⟨b, 2, none⟩ u2) (some b) :=
  By.set (p := ⟨b, 2, none⟩) (By.set (p := ⟨b, 1, none⟩) (By.set (p := ⟨b, 0, none⟩) h u0) u1) u2
end Go.Proofs.YthkbenhlhldglaaDoor
