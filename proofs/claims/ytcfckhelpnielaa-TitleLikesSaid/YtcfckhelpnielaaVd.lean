/-
  What is proved: what Count and Width of package title hand back.
-/
import Derived.Test.YtcfckhelpnielaaVc
namespace Go.Proofs.Ytcfckhelpnielaa
open Go.RowKit Go.Sort Go.Shelf
attribute [local go_sem] Oper.semAt_some

theorem zip2 (X : Array Value) (i j : Nat) (a b : Value) : Array.foldl (fun t x => t.setIfInBounds x.1 x.2) X ((#[i, j] : Array Nat).zip #[a, b]) = (X.setIfInBounds i a).setIfInBounds j b := by
  rw [← Array.foldl_toList]; simp
theorem ownAt {β : Type} (B b : Nat) (cs : β → Array Value) (t : TypeId) : OwnFrom B (fun s W => At W b (cs s) t) := fun s X Y row hs hg hr =>
  hs.grown hg (fun e => by obtain ⟨_, o, ho, hc⟩ := hr b e.symm; rw [show X.heap[b]? = _ from hs] at ho; cases ho; cases hc)
theorem At.put {w : World} {b : Nat} {cs : Array Value} {t : TypeId} (h : At w b cs t) (i : Nat) (u : Value) : At (w.setCell ⟨b, i, none⟩ u) b (cs.setIfInBounds i u) t := Go.Joins.block_setCell (i := i) h u
theorem then_false {K : Act → World → Prop} {Q : Exit → Act → World → Prop} : ∀ e a w, Exit.then K (fun _ _ _ => False) e a w → Exit.then K Q e a w := by
  intro e a w h
  cases e <;> first | exact h | exact h.elim
/-- Behind the loop's own bookkeeping. -/
theorem below_fin {w W0 W : World} {D : Nat} {o o' : Obj} (h : Below w.heap.size w W) (hD : W0.heap.size ≤ D) (h0 : w.heap.size ≤ W0.heap.size) (_ : W.heap[D]? = some o) : Below w.heap.size w (W.putObj D o') :=
  h.grown (grownBy_putObj' W D o') (by have := h.size; omega) (fun k e => by cases e; omega)

set_option maxRecDepth 100000 in
set_option maxHeartbeats 2000000 in
theorem count1 (s : ByteArray) (hs : s.size ≤ 9223372036854775807) (w : World) : Calls Try.prog 14 #[.string s] w (Bt w (.int .i64 ((sgs s.data.toList).length : Nat))) := by
  refine (callsIn_wide (n := 5)).1 ?_
  refine callsIn_of_wp_marks Try.func14 rfl trivial ?_ rfl
  simp only [Try.ntmps14, List.size_toArray, List.length_cons, List.length_nil, Nat.reduceAdd, Nat.reduceSub, Array.replicate_succ, Array.replicate_zero, List.push_toArray, List.append_toArray, List.nil_append, List.cons_append]
  have hn := sgs_len s.data.toList
  rw [show s.data.toList.length = s.size from Array.length_toList] at hn
  have n1 := At.new w #[.int .i64 0] 3
  gi_wp2_with fail
  refine ⟨trivial, ?_⟩
  refine (callsIn_wide.2 (signs1 s _)).mono ?_
  rintro e w1 ⟨rfl, rfl⟩
  have n2 := n1.alloc (.cells #[.string s] 9)
  have s2 := At.newAt (w := w.alloc (.cells #[.int .i64 0] 3)) (n := w.heap.size + 1) (by simp) #[.string s] 9
  have G2 : Below w.heap.size w ((w.alloc (.cells #[.int .i64 0] 3)).alloc (.cells #[.string s] 9)) := (((Bl.refl w).alloc _).alloc _)
  gi_wp2
  clear n1
  refine wpIn_rangeFunc_ownG rfl (by omega) (gf := 30) (lb := #[.pointer (some ⟨w.heap.size + 1, 0, none⟩)]) rfl trivial (enters_of Try.func30 (by kernel_rfl) rfl)
    (signsStops (5 - 1) (by omega) _ _ s hs _ s2) (fun h k => walksK_t h k) walksK_b (Below.refl _ _) (fun _ => rfl)
    (fun pre V => At V w.heap.size #[.int .i64 (pre.length : Nat)] 3 ∧ Below w.heap.size w V) (fun _ _ _ => False)
    ((ownAt _ _ _ _).and (ownFrom_below (Nat.le_refl _) (by simp; omega)))
    (fun _ _ _ _ _ hs _ _ => hs) ⟨n2, G2⟩
    (fun x => { tmps := #[.string s, undef, .int .i64 0, .pointer (some ⟨w.heap.size, 0, none⟩), .string s, .func (.func 30) #[] #[.pointer (some ⟨w.heap.size + 1, 0, none⟩)], .int .i64 (pos s.data.toList x.1 : Nat), .int .i32 (rAt s.data.toList x), undef, undef, undef], defers := [] }) ?assign ?body ?done ?stop
  case assign =>
    intro l x W' K' hK'
    dsimp only [sgV]
    gi_wp2
    rw [zip2]
    exact hK'
  case body =>
    rintro l pre x W' ⟨hi, hb⟩ hlen
    have c0 : W'.cell? ⟨w.heap.size, 0, none⟩ = some (.int .i64 (pre.length : Nat)) := hi.cell 0
    have f0 : W'.frozen? ⟨w.heap.size, 0, none⟩ = false := hi.free 0
    gi_wp2
    refine ⟨(KeepsOthers.setCell _ _ _).from _, KeepsWalks.setCell _ _ _, ?_, hb.setCell (p := ⟨w.heap.size, 0, none⟩) (Nat.le_refl _) _⟩
    have := hi.put 0 (.int .i64 (((pre ++ [x]).length : Nat) : Int))
    simpa using this
  case done =>
    rintro D ys W' hD hys ⟨hi, hb⟩ hK'
    have hl : ys.length = (sgs s.data.toList).length := by have := congrArg List.length hys; simpa using this
    rw [hl] at hi
    have c0 : W'.cell? ⟨w.heap.size, 0, none⟩ = some (.int .i64 ((sgs s.data.toList).length : Nat)) := hi.cell 0
    clear hys hl
    gi_wp2
    refine ⟨by simp, .inl ⟨_, _, rfl, run_takeDeferred hK', ?_⟩⟩
    refine ⟨_, results_tmp rfl _ _ _, rfl, ?_⟩
    exact below_fin hb hD (by simp; omega) hK'
  case stop =>
    rintro D c pre W' _ _ h _
    exact h.elim
end Go.Proofs.Ytcfckhelpnielaa
