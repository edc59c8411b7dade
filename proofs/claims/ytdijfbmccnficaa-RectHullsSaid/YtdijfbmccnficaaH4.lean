/-
  What is proved: plain facts on hulls, and on rows of rectangles that a call owns.
-/
import Derived.Test.YtdijfbmccnficaaH3
import Derived.Test.YtdijfbmccnficaaA4
import Derived.Deep.AppendLies
import Derived.Laws.OwnMore
namespace Go.Proofs.Ytdijfbmccnficaa
open Go.RowKit Go.Sort

theorem covers_step {h r p : Rc} (hc : coversB h.a h.b h.c h.d p.a p.b p.c p.d = true) : coversB (stepR h r).a (stepR h r).b (stepR h r).c (stepR h r).d p.a p.b p.c p.d = true := by
  unfold coversB emptyB at *
  simp only [Bool.or_eq_true, decide_eq_true_eq] at *
  unfold stepR
  split
  · exact hc
  · unfold joinR
    split
    · omega
    · dsimp only; omega
theorem covers_last {h r : Rc} : coversB (stepR h r).a (stepR h r).b (stepR h r).c (stepR h r).d r.a r.b r.c r.d = true := by
  unfold coversB stepR
  by_cases e : emptyB r.a r.b r.c r.d = true
  · rw [e]; rfl
  · rw [if_neg e]
    simp only [Bool.or_eq_true, decide_eq_true_eq]
    right
    unfold joinR
    split
    · omega
    · dsimp only; omega
theorem hull_covers (f : Nat → Rc) : ∀ n k, k < n → coversB (hullR f n).a (hullR f n).b (hullR f n).c (hullR f n).d (f k).a (f k).b (f k).c (f k).d = true
  | n + 1, k, hk => by
    rw [hullR_succ]
    by_cases h : k = n
    · subst h; exact covers_last
    · exact covers_step (hull_covers f n k (by omega))

/-- The cells of the first k of a row of rectangles. -/
def rowL (g : Nat → Rc) : Nat → List Value
  | 0 => []
  | k + 1 => rowL g k ++ [.int .i64 (g k).a, .int .i64 (g k).b, .int .i64 (g k).c, .int .i64 (g k).d]
theorem rowL_length (g : Nat → Rc) : ∀ k, (rowL g k).length = k * 4
  | 0 => rfl
  | k + 1 => by unfold rowL; rw [List.length_append, rowL_length g k]; simp; omega
theorem rowL_at (g : Nat → Rc) : ∀ n k j, k < n → j < 4 → (rowL g n)[k * 4 + j]? = [Value.int .i64 (g k).a, .int .i64 (g k).b, .int .i64 (g k).c, .int .i64 (g k).d][j]?
  | n + 1, k, j, hk, hj => by
    have hl := rowL_length g n
    unfold rowL
    by_cases h : k = n
    · subst h
      rw [List.getElem?_append_right (by omega), hl, show k * 4 + j - k * 4 = j from by omega]
    · rw [List.getElem?_append_left (by omega)]
      exact rowL_at g n k j (by omega) hj

theorem Row.of_own {w : World} {base gb m cp : Nat} {g : Nat → Rc} {t : TypeId} (h : w.ownsRow base t 4 (.slice (some ⟨gb, 0, none⟩) m cp) m (rowL g m)) : Row w gb 0 m g := fun k hk => by
  have r := fun j => fun (hj : j < 4) => (h.cellAt (k * 4 + j) (by omega)).trans (rowL_at g m k j hk hj)
  refine ⟨?_, ?_, ?_, ?_⟩
  · have := r 0 (by omega); simpa using this
  · have := r 1 (by omega); simpa using this
  · have := r 2 (by omega); simpa using this
  · have := r 3 (by omega); simpa using this
theorem Row.below {w w' : World} {b off n : Nat} {f : Nat → Rc} (h : Row w b off n f) (g : Below w.heap.size w w') : Row w' b off n f := fun k hk => by
  have hl := h.lt hk
  obtain ⟨h1, h2, h3, h4⟩ := h k hk
  exact ⟨(g.cell hl).trans h1, (g.cell hl).trans h2, (g.cell hl).trans h3, (g.cell hl).trans h4⟩
theorem Row.less {w : World} {b off n m : Nat} {f : Nat → Rc} (h : Row w b off n f) (hm : m ≤ n) : Row w b off m f := fun k hk => h k (by omega)
theorem Gr.grownBy {w w' : World} (h : Gr w w') : w.grownBy w' none := ⟨h.below.os, h.below.tape, h.below.output, h.below.size, fun k hk _ => h.below.block k hk⟩
theorem own_gr {w w' : World} {base n size : Nat} {e : TypeId} {v : Value} {xs : List Value} (h : w.ownsRow base e size v n xs) (g : Gr w w') : w'.ownsRow base e size v n xs :=
  h.kept g.grownBy (by cases v.ownBlock <;> simp)

theorem info23 : (Try.prog.info? 23).map (fun i => (i.zero, i.size, i.bytes)) = some (some (.agg #[.int .i64 0, .int .i64 0, .int .i64 0, .int .i64 0]), 4, 32) := by kernel_rfl

end Go.Proofs.Ytdijfbmccnficaa
