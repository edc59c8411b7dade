/-
  What is proved: small facts on a world behind which new blocks were laid (and draws made), and what a callee that only makes memory of its own says of its call. No conditions. how a law's row is closed from a walk that only lays memory of its own, for arguments that hold no memory (no conditions); no more. what the calls of package rect hand back. how a law's row is closed from a walk that only lays memory of its own, for arguments that hold no memory (no conditions); and how a rectangle handed in by value is opened and shut. what the calls of package rect, and of the document's answers, hand back. what the calls of package rect, and of the document's answers, hand back.
-/
import Derived.Test.YthkbenhlhldglaaDoorRows
import Derived.WalkKit
import Derived.Shelf.SlSortCmp.QuietGrown
import Derived.Below
import Derived.Lib.SmallJoins
import Derived.ProofKit
import Derived.OpenShut
import Derived.ChangeSame
import Derived.StillTailTactics
import Derived.Deep.QuietTactic
import Derived.BigQuiet
import Derived.Handy
import Derived.Deep.RegionHeld3
import Derived.IntWalk
import Derived.Deep.DeepCutAuto
namespace Go.Proofs.YthkbenhlhldglaaDoor
open Go.RowKit Go.Sort

/-- w' is w with some draws made and some blocks laid behind. -/
def Gr (w w' : World) : Prop := ∃ p : GrownBy, w' = grow (w.drewN p.n) p.os
/-- A call that hands v back and only lays blocks of its own. -/
def Rt (w : World) (v : Value) (e : Ending) (w' : World) : Prop := e = .returned v ∧ Gr w w'

theorem Gr.refl (w : World) : Gr w w := ⟨⟨0, #[]⟩, by simp [World.drewN_zero]⟩
theorem Gr.trans {a b c : World} (h : Gr a b) (k : Gr b c) : Gr a c := by
  obtain ⟨⟨n, os⟩, rfl⟩ := h
  obtain ⟨⟨m, os'⟩, rfl⟩ := k
  exact ⟨⟨n + m, os ++ os'⟩, by show grow (grow ((a.drewN n).drewN m) os) os' = _; rw [grow_grow, World.drewN_drewN]⟩
theorem Gr.drew {a b : World} (h : Gr a b) : Gr a b.drew := h.trans ⟨⟨1, #[]⟩, by simp; rfl⟩
theorem Gr.drewN {a b : World} (h : Gr a b) (n : Nat) : Gr a (b.drewN n) := h.trans ⟨⟨n, #[]⟩, by simp⟩
theorem Gr.grow {a b : World} (h : Gr a b) (os : Array Obj) : Gr a (grow b os) := h.trans ⟨⟨0, os⟩, by simp [World.drewN_zero]⟩
theorem Gr.alloc {a b : World} (h : Gr a b) (o : Obj) : Gr a (b.alloc o) := by rw [alloc_eq_grow]; exact h.grow _
theorem Gr.setCell {a b : World} (h : Gr a b) {p : Addr} (hp : a.heap.size ≤ p.block) (u : Value) : Gr a (b.setCell p u) := by
  obtain ⟨⟨n, os⟩, rfl⟩ := h
  refine ⟨⟨n, os.modify (p.block - a.heap.size) fun
      | .cells c elem frozen => .cells (if p.spot.isSome then c else c.setIfInBounds p.off u) elem frozen
      | o => o⟩, ?_⟩
  simp only [World.setCell, Go.Sort.grow, modify_append_right _ _ _ _ (show (a.drewN n).heap.size ≤ p.block from hp)]
  rfl
theorem Gr.below {a b : World} (h : Gr a b) : Below a.heap.size a b := by
  obtain ⟨⟨n, os⟩, rfl⟩ := h
  exact ⟨rfl, rfl, rfl, by simp, fun k hk => heap_grow_old (a.drewN n) os hk⟩
theorem Gr.size {a b : World} (h : Gr a b) : a.heap.size ≤ b.heap.size := h.below.size
theorem Gr.cell {a b : World} (h : Gr a b) {p : Addr} (hp : p.block < a.heap.size) : b.cell? p = a.cell? p := h.below.cell hp
theorem Gr.frozen {a b : World} (h : Gr a b) {p : Addr} (hp : p.block < a.heap.size) : b.frozen? p = a.frozen? p := h.below.frozen hp

theorem Rt.bool {w w' : World} {a b : Bool} (h : a = true ↔ b = true) (hg : Gr w w') : Rt w (.bool b) (.returned (.bool a)) w' := by
  have : a = b := by cases a <;> cases b <;> simp_all
  subst this; exact ⟨rfl, hg⟩
theorem Rt.int {w w' : World} {k : IntKind} {a b : Int} (h : a = b) (hg : Gr w w') : Rt w (.int k b) (.returned (.int k a)) w' := by subst h; exact ⟨rfl, hg⟩
theorem nlt_r {a b c : Nat} (h : a < b) : (a < b + c) = True := by simp; omega
theorem Rt.mk {w w' : World} {v : Value} (h : Gr w w') : Rt w v (.returned v) w' := ⟨rfl, h⟩

/-- A callee's contract, met in a region that draws its order. -/
theorem Calls.grown {P : Program} {f : FuncId} {args : Array Value} {w : World} {n : Nat} {os : Array Obj} {v : Value}
    (h : Calls P f args (grow (w.drewN n) os) (Rt (grow (w.drewN n) os) v)) : Calls P f args (grow (w.drewN n) os) fun e w'' => e = .returned v ∧ ∃ p : GrownBy, w'' = grow (w.drewN p.n) p.os :=
  h.mono fun _ _ ⟨he, hw⟩ => ⟨he, (show Gr w _ from (((Gr.refl w).drewN n).grow os).trans hw)⟩

/-- Block b holds these cells, and may be written. -/
def At (w : World) (b : Nat) (cs : Array Value) (t : TypeId) : Prop := w.heap[b]? = some (.cells cs t (0, 0))
theorem At.lt {w : World} {b : Nat} {cs : Array Value} {t : TypeId} (h : At w b cs t) : b < w.heap.size := by
  rcases Nat.lt_or_ge b w.heap.size with h' | h'
  · exact h'
  · unfold At at h; rw [Array.getElem?_eq_none h'] at h; cases h
theorem At.cell {w : World} {b : Nat} {cs : Array Value} {t : TypeId} (h : At w b cs t) (i : Nat) : w.cell? ⟨b, i, none⟩ = cs[i]? := by
  unfold At at h; simp [World.cell?, h]
theorem At.free {w : World} {b : Nat} {cs : Array Value} {t : TypeId} (h : At w b cs t) (i : Nat) : w.frozen? ⟨b, i, none⟩ = false := by
  unfold At at h; simp [World.frozen?, h]
theorem At.gr {w w' : World} {b : Nat} {cs : Array Value} {t : TypeId} (h : At w b cs t) (g : Gr w w') : At w' b cs t := by
  have := g.below.block b h.lt
  unfold At at *; rw [this]; exact h
theorem At.alloc {w : World} {b : Nat} {cs : Array Value} {t : TypeId} (h : At w b cs t) (o : Obj) : At (w.alloc o) b cs t := h.gr ((Gr.refl w).alloc o)
theorem At.drew {w : World} {b : Nat} {cs : Array Value} {t : TypeId} (h : At w b cs t) : At w.drew b cs t := h
theorem At.drewN {w : World} {b : Nat} {cs : Array Value} {t : TypeId} (h : At w b cs t) (n : Nat) : At (w.drewN n) b cs t := h
theorem At.grow {w : World} {b : Nat} {cs : Array Value} {t : TypeId} (h : At w b cs t) (os : Array Obj) : At (Go.Sort.grow w os) b cs t := h.gr ((Gr.refl w).grow os)
theorem At.new (w : World) (cs : Array Value) (t : TypeId) : At (w.alloc (.cells cs t)) w.heap.size cs t := by
  unfold At World.alloc; simp
/-- In every world that is w with draws made and blocks laid behind it. -/
theorem At.cells {w : World} {b : Nat} {cs : Array Value} {t : TypeId} (h : At w b cs t) (n : Nat) (os : Array Obj) (i : Nat) : (Go.Sort.grow (w.drewN n) os).cell? ⟨b, i, none⟩ = cs[i]? := ((h.drewN n).grow os).cell i
theorem Gr.step {w w' : World} {n : Nat} {os : Array Obj} (h : Gr (Go.Sort.grow (w.drewN n) os) w') : Gr w w' := (((Gr.refl w).drewN n).grow os).trans h

/-- The least and the greatest of two ints stay whole in a walk ('attribute [local go_sem ↓] run_min2 run_max2'): else it parts at each. -/
theorem run_min2 {P : Program} {w : World} (ts : Array TypeId) (t : TypeId) (x y : Int) : (Builtin.min_ ts t #[.int .i64 x, .int .i64 y]).run P w = .ok (.int .i64 (min x y)) w := by
  go_simp
  split <;> (congr 2; omega)
theorem run_max2 {P : Program} {w : World} (ts : Array TypeId) (t : TypeId) (x y : Int) : (Builtin.max_ ts t #[.int .i64 x, .int .i64 y]).run P w = .ok (.int .i64 (max x y)) w := by
  go_simp
  split <;> (congr 2; omega)

theorem At.put4 {w : World} {b : Nat} {z0 z1 z2 z3 : Value} {t : TypeId} (h : At w b #[z0, z1, z2, z3] t) (u0 u1 u2 u3 : Value) :
    At ((((w.setCell ⟨b, 0, none⟩ u0).setCell ⟨b, 1, none⟩ u1).setCell ⟨b, 2, none⟩ u2).setCell ⟨b, 3, none⟩ u3) b #[u0, u1, u2, u3] t := by
  have h1 := Go.Joins.block_setCell (i := 0) h u0
  have h2 := Go.Joins.block_setCell (i := 1) h1 u1
  have h3 := Go.Joins.block_setCell (i := 2) h2 u2
  have h4 := Go.Joins.block_setCell (i := 3) h3 u3
  unfold At
  simpa using h4
theorem At.far {w : World} {b : Nat} {cs : Array Value} {t : TypeId} (h : At w b cs t) {p : Addr} (hp : b ≠ p.block) (u : Value) : At (w.setCell p u) b cs t := by
  unfold At at *
  rw [Below.heap_setCell _ _ _ _ hp]; exact h
theorem At.newAt {w : World} {n : Nat} (h : w.heap.size = n) (cs : Array Value) (t : TypeId) : At (w.alloc (.cells cs t)) n cs t := h ▸ At.new w cs t
theorem At.put {w : World} {b : Nat} {cs : Array Value} {t : TypeId} (h : At w b cs t) (i : Nat) (u : Value) : At (w.setCell ⟨b, i, none⟩ u) b (cs.setIfInBounds i u) t := Go.Joins.block_setCell (i := i) h u
theorem ret_int {k : IntKind} {a b : Int} (h : a = b) : Ending.returned (.int k a) = .returned (.int k b) := by rw [h]

end Go.Proofs.YthkbenhlhldglaaDoor
namespace Go.Proofs.YthkbenhlhldglaaDoor
open Go.ChangeShapes Go.WideShapes Go.ChangeAt Go.RowKit Go.Joins Go.Sort

section
variable {H : Type} {enc : TypeId × Value → H} {P : Program}
/-- The row's last step behind a call that lays blocks of its own and turns nothing that was there. -/
theorem close_below {f : Func} {s : ChangeSpec} {apart fresh handsOn again : Bool} {W W' : World} {args : Array Value} {v : Value} {ds gs : List (DataW H)} {before pa pv : List MemPlace}
    (hW : DataW.Whole enc P f.params.toList s.vars apart W args.toList ds gs before)
    (hres : ∀ (b : Nat) (sp : Nat → Bool) (hd : Bool), DataW.TrodAll enc P W' b sp hd f.resultTypes.toList (v.resultList f.resultTypes.size) (s.fn H (ds ++ gs)).results [])
    (hargs : ∀ sp : Nat → Bool, (∀ p ∈ before, sp p.block = true) → DataW.TrodAll enc P W' 0 sp true f.params.toList args.toList (s.fn H (ds ++ gs)).args pa)
    (hvars : ∀ sp : Nat → Bool, (∀ p ∈ before, sp p.block = true) → DataW.TrodVars enc P W' sp s.vars (s.fn H (ds ++ gs)).vars pv)
    (hps : before = pa ++ pv) (hb : Below W.heap.size W W')
    (hok : ∀ (j : Nat) (t : TypeId) (r : Value), f.resultTypes[j]? = some t → (v.resultList f.resultTypes.size)[j]? = some r → Value.okWide P W' .any 0 t r) :
    s.post enc P f apart fresh handsOn again W args v W' := by
  have old : ∀ p ∈ before, p.block < W.heap.size := fun p hp => hW.lt p hp
  have olds : ∀ p ∈ before, (fun b => decide (b < W.heap.size)) p.block = true := fun p hp => by simpa using old p hp
  refine ⟨ds, gs, before, [], pa, pv, hW, hres _ _ _, hargs _ olds, hvars _ olds, World.keptBut_mono (fun p hp => ⟨hp, ?_⟩) (hb.frame (· ∈ before)), fun _ => ?_⟩
  · rw [hps, List.mem_append] at hp
    exact Or.inr hp
  · obtain ⟨_, _, _, _, _, fz, nd⟩ := hW
    refine ⟨hok, _, _, ([] ++ pa) ++ pv, ⟨[] ++ pa, pv, trodAll_append (hargs _ (fun _ _ => rfl)) (hres _ _ _), hvars _ (fun _ _ => rfl), rfl, ?_, ?_⟩, ?_⟩
    · intro b off hp
      have there : MemPlace.cell b off ∈ before := by rw [hps]; simpa using hp
      rw [hb.frozen (old _ there)]
      exact fz b off there
    · intro ha
      have := nd ha
      rw [hps] at this
      simpa using this
    · intro p hp _
      rw [hps]
      simpa using hp
end

def I64 (n : Int) : Prop := -9223372036854775808 ≤ n ∧ n ≤ 9223372036854775807
theorem I64.of_wf {n : Int} (h : (Lit.int .i64 n).wf = true) : I64 n := by
  simp [Lit.wf, IntKind.min, IntKind.max, IntKind.bits, IntKind.signed] at h
  unfold I64
  omega

theorem laidOut : laidOutB Tryd.prog = true := by kernel_rfl
theorem own : ownKnob Tryd.prog.godebug = none := by kernel_rfl

end Go.Proofs.YthkbenhlhldglaaDoor
namespace Go.Proofs.YthkbenhlhldglaaDoor
open Go.RowKit Go.Sort

def mayB (a b c d : Int) : Bool := decide (-1048576 ≤ a ∧ a ≤ c ∧ c ≤ 1048576 ∧ -1048576 ≤ b ∧ b ≤ d ∧ d ≤ 1048576)
def emptyB (a b c d : Int) : Bool := decide (c ≤ a ∨ d ≤ b)
def hasB (a b c d x y : Int) : Bool := decide (a ≤ x ∧ x < c ∧ b ≤ y ∧ y < d)
def inB (a : Int) : Bool := decide (-1048576 ≤ a ∧ a ≤ 1048576)

set_option maxHeartbeats 400000 in
theorem may1 (a b c d : Int) (w : World) :
    Calls Tryd.prog 115 #[.agg #[.int .i64 a, .int .i64 b, .int .i64 c, .int .i64 d]] w (Rt w (.bool (mayB a b c d))) := by
  go_enter Tryd.func115, Tryd.ntmps115
  go_wp2
  all_goals
    go_ret
    refine Rt.bool ?_ ?_
    · simp [mayB] <;> omega
    · repeat (first | with_reducible exact Gr.refl _ | with_reducible apply Gr.drew | with_reducible apply Gr.drewN | with_reducible apply Gr.grow | with_reducible apply Gr.alloc | (with_reducible refine Gr.setCell ?_ ?_ _; rotate_left; (simp; try omega)))

set_option maxHeartbeats 400000 in
theorem empty1 (a b c d : Int) (w : World) :
    Calls Tryd.prog 114 #[.agg #[.int .i64 a, .int .i64 b, .int .i64 c, .int .i64 d]] w (Rt w (.bool (emptyB a b c d))) := by
  go_enter Tryd.func114, Tryd.ntmps114
  go_wp2
  all_goals
    go_ret
    refine Rt.bool ?_ ?_
    · simp [emptyB] <;> omega
    · repeat (first | with_reducible exact Gr.refl _ | with_reducible apply Gr.drew | with_reducible apply Gr.drewN | with_reducible apply Gr.grow | with_reducible apply Gr.alloc | (with_reducible refine Gr.setCell ?_ ?_ _; rotate_left; (simp; try omega)))

set_option maxHeartbeats 400000 in
theorem refempty1 (a b c d : Int) (w : World) :
    Calls Tryd.prog 79 #[.agg #[.int .i64 a, .int .i64 b, .int .i64 c, .int .i64 d]] w (Rt w (.bool (emptyB a b c d))) := by
  go_enter Tryd.func79, Tryd.ntmps79
  go_wp2
  all_goals
    go_ret
    refine Rt.bool ?_ ?_
    · simp [emptyB] <;> omega
    · repeat (first | with_reducible exact Gr.refl _ | with_reducible apply Gr.drew | with_reducible apply Gr.drewN | with_reducible apply Gr.grow | with_reducible apply Gr.alloc | (with_reducible refine Gr.setCell ?_ ?_ _; rotate_left; (simp; try omega)))

set_option maxHeartbeats 400000 in
theorem refin1 (a : Int) (w : World) :
    Calls Tryd.prog 104 #[.int .i64 a] w (Rt w (.bool (inB a))) := by
  go_enter Tryd.func104, Tryd.ntmps104
  go_wp2
  all_goals
    go_ret
    refine Rt.bool ?_ ?_
    · simp [inB] <;> omega
    · repeat (first | with_reducible exact Gr.refl _ | with_reducible apply Gr.drew | with_reducible apply Gr.drewN | with_reducible apply Gr.grow | with_reducible apply Gr.alloc | (with_reducible refine Gr.setCell ?_ ?_ _; rotate_left; (simp; try omega)))

end Go.Proofs.YthkbenhlhldglaaDoor
namespace Go.Proofs.YthkbenhlhldglaaDoor
open Go.ChangeShapes Go.WideShapes Go.ChangeAt Go.RowKit Go.Joins Go.Sort

theorem cellsRect : Tryd.prog.cellsOf 26 = 4 := by kernel_rfl

section
variable {H : Type} {enc : TypeId × Value → H} {w : World} {base b0 : Nat} {r : Reach} {spare : Nat → Bool} {held : Bool}
set_option maxRecDepth 100000 in
/-- A rectangle that came in by value. -/
theorem open_rect {v : Value} {dd : DataW H} {p : List MemPlace} (hv : Value.okWide Tryd.prog w r b0 26 v) (h : DataW.Trod enc Tryd.prog w base spare held 26 v dd p) :
    ∃ a b c d : Int, v = .agg #[.int .i64 a, .int .i64 b, .int .i64 c, .int .i64 d] ∧ dd = .agg [.lit (.int .i64 a), .lit (.int .i64 b), .lit (.int .i64 c), .lit (.int .i64 d)] ∧ p = [] ∧
      (Lit.int .i64 a).wf = true ∧ (Lit.int .i64 b).wf = true ∧ (Lit.int .i64 c).wf = true ∧ (Lit.int .i64 d).wf = true := by
  obtain ⟨a0, a1, a2, a3, y0, y1, y2, y3, m, rfl, rfl, rfl, hy0, hy1, hy2, hy3⟩ := open_agg4 Tryd.underlying26 (by kernel_rfl) cellsRect hv h
  obtain ⟨a, e0, rfl, wa⟩ := DataW.trod_int Tryd.underlying3 hy0
  obtain ⟨b, e1, rfl, wb⟩ := DataW.trod_int Tryd.underlying3 hy1
  obtain ⟨c, e2, rfl, wc⟩ := DataW.trod_int Tryd.underlying3 hy2
  obtain ⟨d, e3, rfl, wd⟩ := DataW.trod_int Tryd.underlying3 hy3
  simp at e0 e1 e2 e3
  subst e0 e1 e2 e3
  exact ⟨a, b, c, d, rfl, rfl, rfl, wa, wb, wc, wd⟩
set_option maxRecDepth 100000 in
theorem shut_rect {a b c d : Int} (wa : (Lit.int .i64 a).wf = true) (wb : (Lit.int .i64 b).wf = true) (wc : (Lit.int .i64 c).wf = true) (wd : (Lit.int .i64 d).wf = true) :
    DataW.Trod enc Tryd.prog w base spare held 26 (.agg #[.int .i64 a, .int .i64 b, .int .i64 c, .int .i64 d]) (.agg [.lit (.int .i64 a), .lit (.int .i64 b), .lit (.int .i64 c), .lit (.int .i64 d)]) [] :=
  shut_agg4 (y0 := (.lit (.int .i64 a), [])) (y1 := (.lit (.int .i64 b), [])) (y2 := (.lit (.int .i64 c), [])) (y3 := (.lit (.int .i64 d), [])) Tryd.underlying26 (by kernel_rfl) cellsRect ⟨1, by simp [DataW.trod, Tryd.underlying3, wa]⟩ ⟨1, by simp [DataW.trod, Tryd.underlying3, wb]⟩ ⟨1, by simp [DataW.trod, Tryd.underlying3, wc]⟩ ⟨1, by simp [DataW.trod, Tryd.underlying3, wd]⟩
end

end Go.Proofs.YthkbenhlhldglaaDoor
namespace Go.Proofs.YthkbenhlhldglaaDoor
open Go.RowKit Go.Sort

structure Rc where
  a : Int
  b : Int
  c : Int
  d : Int
def cutR (a b c d a' b' c' d' : Int) : Rc :=
  if emptyB (max a a') (max b b') (min c c') (min d d') = true then ⟨0, 0, 0, 0⟩ else ⟨max a a', max b b', min c c', min d d'⟩
theorem cutR_t {a b c d a' b' c' d' p q r s : Int} (e : emptyB p q r s = true) (h : max a a' = p ∧ max b b' = q ∧ min c c' = r ∧ min d d' = s) :
    (cutR a b c d a' b' c' d').a = 0 ∧ (cutR a b c d a' b' c' d').b = 0 ∧ (cutR a b c d a' b' c' d').c = 0 ∧ (cutR a b c d a' b' c' d').d = 0 := by
  obtain ⟨h1, h2, h3, h4⟩ := h
  unfold cutR; rw [h1, h2, h3, h4, if_pos e]; exact ⟨rfl, rfl, rfl, rfl⟩
theorem cutR_f {a b c d a' b' c' d' p q r s : Int} (e : emptyB p q r s = false) (h : max a a' = p ∧ max b b' = q ∧ min c c' = r ∧ min d d' = s) :
    (cutR a b c d a' b' c' d').a = p ∧ (cutR a b c d a' b' c' d').b = q ∧ (cutR a b c d a' b' c' d').c = r ∧ (cutR a b c d a' b' c' d').d = s := by
  obtain ⟨h1, h2, h3, h4⟩ := h
  unfold cutR; rw [h1, h2, h3, h4, if_neg (by simp [e])]; exact ⟨rfl, rfl, rfl, rfl⟩
def meetsB (a b c d a' b' c' d' : Int) : Bool := !emptyB (max a a') (max b b') (min c c') (min d d')
def coversB (a b c d a' b' c' d' : Int) : Bool := emptyB a' b' c' d' || decide (a ≤ a' ∧ b ≤ b' ∧ c' ≤ c ∧ d' ≤ d)
def clamp (n : Int) : Int := min (max n (-1048576)) 1048576
def goodR (a b c d : Int) : Rc := ⟨min (clamp a) (clamp c), min (clamp b) (clamp d), max (clamp a) (clamp c), max (clamp b) (clamp d)⟩
def around (n m : Int) : Int := if n < 0 then -((n + 1).tmod m) else n % m
def smallR (a b c d : Int) : Rc := ⟨around a 24 - 4, around b 24 - 4, around a 24 - 4 + around c 13, around b 24 - 4 + around d 13⟩

theorem around_bd (n m : Int) (hm : 1 ≤ m) : 0 ≤ around n m ∧ around n m < m := by
  unfold around
  split
  · rw [← Int.neg_tmod, Int.tmod_eq_emod_of_nonneg (by omega)]
    exact ⟨Int.emod_nonneg _ (by omega), Int.emod_lt_of_pos _ (by omega)⟩
  · exact ⟨Int.emod_nonneg _ (by omega), Int.emod_lt_of_pos _ (by omega)⟩

theorem Rt.rect {w w' : World} {a b c d : Int} {r : Rc} (h : r.a = a ∧ r.b = b ∧ r.c = c ∧ r.d = d) (hg : Gr w w') :
    Rt w (.agg #[.int .i64 r.a, .int .i64 r.b, .int .i64 r.c, .int .i64 r.d]) (.returned (.agg #[.int .i64 a, .int .i64 b, .int .i64 c, .int .i64 d])) w' := by
  obtain ⟨rfl, rfl, rfl, rfl⟩ := h
  exact ⟨rfl, hg⟩

set_option maxHeartbeats 400000 in
theorem refmay1 (a b c d : Int) (w : World) :
    Calls Tryd.prog 78 #[.agg #[.int .i64 a, .int .i64 b, .int .i64 c, .int .i64 d]] w (Rt w (.bool (mayB a b c d))) := by
  go_enter Tryd.func78, Tryd.ntmps78
  go_wp2
  all_goals
    go_ret
    refine Rt.bool ?_ ?_
    · simp [mayB] <;> omega
    · repeat (first | with_reducible exact Gr.refl _ | with_reducible apply Gr.drew | with_reducible apply Gr.drewN | with_reducible apply Gr.grow | with_reducible apply Gr.alloc | (with_reducible refine Gr.setCell ?_ ?_ _; rotate_left; (simp; try omega)))

set_option maxHeartbeats 400000 in
theorem around1 (n m : Int) (w : World) (hn : I64 n) (hm : 1 ≤ m ∧ m ≤ 1000000) :
    Calls Tryd.prog 15 #[.int .i64 n, .int .i64 m] w fun e w' => e = .returned (.int .i64 (around n m)) ∧ w = w' := by
  obtain ⟨hn1, hn2⟩ := hn
  obtain ⟨hm1, hm2⟩ := hm
  go_enter Tryd.func15, Tryd.ntmps15
  go_wp2
  all_goals
    go_ret
    refine ⟨ret_int ?_, rfl⟩
    unfold around
    first | rw [if_pos ‹_›] | rw [if_neg (by omega)]

attribute [local go_sem] cell?_grow frozen?_grow nlt_r
attribute [local go_sem ↓] run_min2 run_max2

end Go.Proofs.YthkbenhlhldglaaDoor
namespace Go.Proofs.YthkbenhlhldglaaDoor
open Go.RowKit Go.Sort

attribute [local go_sem] cell?_grow frozen?_grow nlt_r
attribute [local go_sem ↓] run_min2 run_max2

set_option maxHeartbeats 2000000 in
theorem small1 (a b c d : Int) (w : World) (ha : I64 a) (hb : I64 b) (hc : I64 c) (hd : I64 d) :
    Calls Tryd.prog 45 #[.agg #[.int .i64 a, .int .i64 b, .int .i64 c, .int .i64 d]] w
      (Rt w (.agg #[.int .i64 (smallR a b c d).a, .int .i64 (smallR a b c d).b, .int .i64 (smallR a b c d).c, .int .i64 (smallR a b c d).d])) := by
  have A0 := around_bd a 24 (by omega)
  have B0 := around_bd b 24 (by omega)
  have C0 := around_bd c 13 (by omega)
  have D0 := around_bd d 13 (by omega)
  obtain ⟨A1, A2⟩ := A0
  obtain ⟨B1, B2⟩ := B0
  obtain ⟨C1, C2⟩ := C0
  obtain ⟨D1, D2⟩ := D0
  go_enter Tryd.func45, Tryd.ntmps45
  go_wp2_with fail
  refine (around1 _ _ _ ha (by omega)).mono ?_
  rintro e w' ⟨rfl, rfl⟩
  go_wp2_with fail
  refine (around1 _ _ _ hb (by omega)).mono ?_
  rintro e w' ⟨rfl, rfl⟩
  go_wp2_with fail
  go_region_held3 (fun w' => w'.cell? ⟨w.heap.size, 2, none⟩ = some (.int .i64 c) ∧ w'.cell? ⟨w.heap.size, 3, none⟩ = some (.int .i64 d)) (go_keep)
    (first | (go_at_call_of 15 (Value.int IntKind.i64 c); refine (around1 _ _ _ hc (by omega)).mono ?_; rintro e w' ⟨rfl, rfl⟩) | (go_at_call_of 15 (Value.int IntKind.i64 d); refine (around1 _ _ _ hd (by omega)).mono ?_; rintro e w' ⟨rfl, rfl⟩))
  all_goals go_wp2
  all_goals
    go_returns
    refine Rt.rect (by unfold smallR; refine ⟨rfl, rfl, ?_, ?_⟩ <;> simp only [] <;> first | rfl | exact (IntWalk.i64_in _ (by omega)).symm) ?_
    repeat (first | with_reducible exact Gr.refl _ | with_reducible apply Gr.drew | with_reducible apply Gr.drewN | with_reducible apply Gr.grow | with_reducible apply Gr.alloc | (with_reducible refine Gr.setCell ?_ ?_ _; rotate_left; (simp; try omega)))

end Go.Proofs.YthkbenhlhldglaaDoor
