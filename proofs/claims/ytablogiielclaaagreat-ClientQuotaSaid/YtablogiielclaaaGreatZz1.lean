/-
  What is proved: small facts on a world behind which new blocks were laid (and draws made), and what a callee that only makes memory of its own says of its call. No conditions. what the calls of package rect hand back. how a law's row is closed from a walk that only lays memory of its own, for arguments that hold no memory (no conditions); no more. how a law's row is closed from a walk that only lays memory of its own, for arguments that hold no memory (no conditions); and how a rectangle handed in by value is opened and shut. what the calls of package rect, and of the document's answers, hand back. small words for memory: what was there is as it was; rows of elements of one shape; what 'append' does to such a row that a call owns. No conditions but bounds on lengths. small words for memory: a world that is another one with new blocks; slices that read as lists of rectangles, of ints, of bands; and how 'append' adds to such a row. No conditions.
-/
import Derived.Test.YtablogiielclaaaGreatRows
import Derived.WalkKit
import Derived.Shelf.SlSortCmp.QuietGrown
import Derived.Below
import Derived.Lib.SmallJoins
import Derived.ProofKit
import Derived.OpenShut
import Derived.ChangeSame
import Derived.StillTailTactics
import Derived.Deep.QuietTactic
import Derived.BigQuiet
import Derived.Handy
import Derived.Deep.AppendLies
import Derived.ArgAppend
import Derived.Laws.OwnMore
import Derived.OwnWalk
import Derived.Carry
import Derived.Deep.Slices
import Derived.Deep.Fields
import Derived.Lib.Hide
import Derived.LoopTactic
import Derived.IntWalk
import Derived.WalkMore
namespace Go.Proofs.YtablogiielclaaaGreat
open Go.RowKit Go.Sort

/-- w' is w with some draws made and some blocks laid behind. -/
def Gr (w w' : World) : Prop := ∃ p : GrownBy, w' = grow (w.drewN p.n) p.os
/-- A call that hands v back and only lays blocks of its own. -/
def Rt (w : World) (v : Value) (e : Ending) (w' : World) : Prop := e = .returned v ∧ Gr w w'

theorem Gr.refl (w : World) : Gr w w := ⟨⟨0, #[]⟩, by simp [World.drewN_zero]⟩
theorem Gr.trans {a b c : World} (h : Gr a b) (k : Gr b c) : Gr a c := by
  obtain ⟨⟨n, os⟩, rfl⟩ := h
  obtain ⟨⟨m, os'⟩, rfl⟩ := k
  exact ⟨⟨n + m, os ++ os'⟩, by show grow (grow ((a.drewN n).drewN m) os) os' = _; rw [grow_grow, World.drewN_drewN]⟩
theorem Gr.drew {a b : World} (h : Gr a b) : Gr a b.drew := h.trans ⟨⟨1, #[]⟩, by simp; rfl⟩
theorem Gr.drewN {a b : World} (h : Gr a b) (n : Nat) : Gr a (b.drewN n) := h.trans ⟨⟨n, #[]⟩, by simp⟩
theorem Gr.grow {a b : World} (h : Gr a b) (os : Array Obj) : Gr a (grow b os) := h.trans ⟨⟨0, os⟩, by simp [World.drewN_zero]⟩
theorem Gr.alloc {a b : World} (h : Gr a b) (o : Obj) : Gr a (b.alloc o) := by rw [alloc_eq_grow]; exact h.grow _
theorem Gr.setCell {a b : World} (h : Gr a b) {p : Addr} (hp : a.heap.size ≤ p.block) (u : Value) : Gr a (b.setCell p u) := by
  obtain ⟨⟨n, os⟩, rfl⟩ := h
  refine ⟨⟨n, os.modify (p.block - a.heap.size) fun
      | .cells c elem frozen => .cells (if p.spot.isSome then c else c.setIfInBounds p.off u) elem frozen
      | o => o⟩, ?_⟩
  simp only [World.setCell, Go.Sort.grow, modify_append_right _ _ _ _ (show (a.drewN n).heap.size ≤ p.block from hp)]
  rfl
theorem Gr.below {a b : World} (h : Gr a b) : Below a.heap.size a b := by
  obtain ⟨⟨n, os⟩, rfl⟩ := h
  exact ⟨rfl, rfl, rfl, by simp, fun k hk => heap_grow_old (a.drewN n) os hk⟩
theorem Gr.size {a b : World} (h : Gr a b) : a.heap.size ≤ b.heap.size := h.below.size
theorem Gr.cell {a b : World} (h : Gr a b) {p : Addr} (hp : p.block < a.heap.size) : b.cell? p = a.cell? p := h.below.cell hp
theorem Gr.frozen {a b : World} (h : Gr a b) {p : Addr} (hp : p.block < a.heap.size) : b.frozen? p = a.frozen? p := h.below.frozen hp

theorem Rt.bool {w w' : World} {a b : Bool} (h : a = true ↔ b = true) (hg : Gr w w') : Rt w (.bool b) (.returned (.bool a)) w' := by
  have : a = b := by cases a <;> cases b <;> simp_all
  subst this; exact ⟨rfl, hg⟩
theorem Rt.int {w w' : World} {k : IntKind} {a b : Int} (h : a = b) (hg : Gr w w') : Rt w (.int k b) (.returned (.int k a)) w' := by subst h; exact ⟨rfl, hg⟩
theorem nlt_r {a b c : Nat} (h : a < b) : (a < b + c) = True := by simp; omega
theorem Rt.mk {w w' : World} {v : Value} (h : Gr w w') : Rt w v (.returned v) w' := ⟨rfl, h⟩

/-- A callee's contract, met in a region that draws its order. -/
theorem Calls.grown {P : Program} {f : FuncId} {args : Array Value} {w : World} {n : Nat} {os : Array Obj} {v : Value}
    (h : Calls P f args (grow (w.drewN n) os) (Rt (grow (w.drewN n) os) v)) : Calls P f args (grow (w.drewN n) os) fun e w'' => e = .returned v ∧ ∃ p : GrownBy, w'' = grow (w.drewN p.n) p.os :=
  h.mono fun _ _ ⟨he, hw⟩ => ⟨he, (show Gr w _ from (((Gr.refl w).drewN n).grow os).trans hw)⟩

/-- Block b holds these cells, and may be written. -/
def At (w : World) (b : Nat) (cs : Array Value) (t : TypeId) : Prop := w.heap[b]? = some (.cells cs t (0, 0))
theorem At.lt {w : World} {b : Nat} {cs : Array Value} {t : TypeId} (h : At w b cs t) : b < w.heap.size := by
  rcases Nat.lt_or_ge b w.heap.size with h' | h'
  · exact h'
  · unfold At at h; rw [Array.getElem?_eq_none h'] at h; cases h
theorem At.cell {w : World} {b : Nat} {cs : Array Value} {t : TypeId} (h : At w b cs t) (i : Nat) : w.cell? ⟨b, i, none⟩ = cs[i]? := by
  unfold At at h; simp [World.cell?, h]
theorem At.free {w : World} {b : Nat} {cs : Array Value} {t : TypeId} (h : At w b cs t) (i : Nat) : w.frozen? ⟨b, i, none⟩ = false := by
  unfold At at h; simp [World.frozen?, h]
theorem At.gr {w w' : World} {b : Nat} {cs : Array Value} {t : TypeId} (h : At w b cs t) (g : Gr w w') : At w' b cs t := by
  have := g.below.block b h.lt
  unfold At at *; rw [this]; exact h
theorem At.alloc {w : World} {b : Nat} {cs : Array Value} {t : TypeId} (h : At w b cs t) (o : Obj) : At (w.alloc o) b cs t := h.gr ((Gr.refl w).alloc o)
theorem At.drew {w : World} {b : Nat} {cs : Array Value} {t : TypeId} (h : At w b cs t) : At w.drew b cs t := h
theorem At.drewN {w : World} {b : Nat} {cs : Array Value} {t : TypeId} (h : At w b cs t) (n : Nat) : At (w.drewN n) b cs t := h
theorem At.grow {w : World} {b : Nat} {cs : Array Value} {t : TypeId} (h : At w b cs t) (os : Array Obj) : At (Go.Sort.grow w os) b cs t := h.gr ((Gr.refl w).grow os)
theorem At.new (w : World) (cs : Array Value) (t : TypeId) : At (w.alloc (.cells cs t)) w.heap.size cs t := by
  unfold At World.alloc; simp
/-- In every world that is w with draws made and blocks laid behind it. -/
theorem At.cells {w : World} {b : Nat} {cs : Array Value} {t : TypeId} (h : At w b cs t) (n : Nat) (os : Array Obj) (i : Nat) : (Go.Sort.grow (w.drewN n) os).cell? ⟨b, i, none⟩ = cs[i]? := ((h.drewN n).grow os).cell i
theorem Gr.step {w w' : World} {n : Nat} {os : Array Obj} (h : Gr (Go.Sort.grow (w.drewN n) os) w') : Gr w w' := (((Gr.refl w).drewN n).grow os).trans h

/-- The least and the greatest of two ints stay whole in a walk ('attribute [local go_sem ↓] run_min2 run_max2'): else it parts at each. -/
theorem run_min2 {P : Program} {w : World} (ts : Array TypeId) (t : TypeId) (x y : Int) : (Builtin.min_ ts t #[.int .i64 x, .int .i64 y]).run P w = .ok (.int .i64 (min x y)) w := by
  go_simp
  split <;> (congr 2; omega)
theorem run_max2 {P : Program} {w : World} (ts : Array TypeId) (t : TypeId) (x y : Int) : (Builtin.max_ ts t #[.int .i64 x, .int .i64 y]).run P w = .ok (.int .i64 (max x y)) w := by
  go_simp
  split <;> (congr 2; omega)

theorem At.put4 {w : World} {b : Nat} {z0 z1 z2 z3 : Value} {t : TypeId} (h : At w b #[z0, z1, z2, z3] t) (u0 u1 u2 u3 : Value) :
    At ((((w.setCell ⟨b, 0, none⟩ u0).setCell ⟨b, 1, none⟩ u1).setCell ⟨b, 2, none⟩ u2).setCell ⟨b, 3, none⟩ u3) b #[u0, u1, u2, u3] t := by
  have h1 := Go.Joins.block_setCell (i := 0) h u0
  have h2 := Go.Joins.block_setCell (i := 1) h1 u1
  have h3 := Go.Joins.block_setCell (i := 2) h2 u2
  have h4 := Go.Joins.block_setCell (i := 3) h3 u3
  unfold At
  simpa using h4
theorem At.far {w : World} {b : Nat} {cs : Array Value} {t : TypeId} (h : At w b cs t) {p : Addr} (hp : b ≠ p.block) (u : Value) : At (w.setCell p u) b cs t := by
  unfold At at *
  rw [Below.heap_setCell _ _ _ _ hp]; exact h
theorem At.newAt {w : World} {n : Nat} (h : w.heap.size = n) (cs : Array Value) (t : TypeId) : At (w.alloc (.cells cs t)) n cs t := h ▸ At.new w cs t
theorem At.put {w : World} {b : Nat} {cs : Array Value} {t : TypeId} (h : At w b cs t) (i : Nat) (u : Value) : At (w.setCell ⟨b, i, none⟩ u) b (cs.setIfInBounds i u) t := Go.Joins.block_setCell (i := i) h u
theorem ret_int {k : IntKind} {a b : Int} (h : a = b) : Ending.returned (.int k a) = .returned (.int k b) := by rw [h]

end Go.Proofs.YtablogiielclaaaGreat
namespace Go.Proofs.YtablogiielclaaaGreat
open Go.RowKit Go.Sort

def mayB (a b c d : Int) : Bool := decide (-1048576 ≤ a ∧ a ≤ c ∧ c ≤ 1048576 ∧ -1048576 ≤ b ∧ b ≤ d ∧ d ≤ 1048576)
def emptyB (a b c d : Int) : Bool := decide (c ≤ a ∨ d ≤ b)
def hasB (a b c d x y : Int) : Bool := decide (a ≤ x ∧ x < c ∧ b ≤ y ∧ y < d)
def inB (a : Int) : Bool := decide (-1048576 ≤ a ∧ a ≤ 1048576)

set_option maxHeartbeats 400000 in
theorem may1 (a b c d : Int) (w : World) :
    Calls Tryz.prog 250 #[.agg #[.int .i64 a, .int .i64 b, .int .i64 c, .int .i64 d]] w (Rt w (.bool (mayB a b c d))) := by
  go_enter Tryz.func250, Tryz.ntmps250
  go_wp2
  all_goals
    go_ret
    refine Rt.bool ?_ ?_
    · simp [mayB] <;> omega
    · repeat (first | with_reducible exact Gr.refl _ | with_reducible apply Gr.drew | with_reducible apply Gr.drewN | with_reducible apply Gr.grow | with_reducible apply Gr.alloc | (with_reducible refine Gr.setCell ?_ ?_ _; rotate_left; (simp; try omega)))

set_option maxHeartbeats 400000 in
theorem empty1 (a b c d : Int) (w : World) :
    Calls Tryz.prog 150 #[.agg #[.int .i64 a, .int .i64 b, .int .i64 c, .int .i64 d]] w (Rt w (.bool (emptyB a b c d))) := by
  go_enter Tryz.func150, Tryz.ntmps150
  go_wp2
  all_goals
    go_ret
    refine Rt.bool ?_ ?_
    · simp [emptyB] <;> omega
    · repeat (first | with_reducible exact Gr.refl _ | with_reducible apply Gr.drew | with_reducible apply Gr.drewN | with_reducible apply Gr.grow | with_reducible apply Gr.alloc | (with_reducible refine Gr.setCell ?_ ?_ _; rotate_left; (simp; try omega)))

set_option maxHeartbeats 400000 in
theorem has1 (a b c d x y : Int) (w : World) :
    Calls Tryz.prog 93 #[.agg #[.int .i64 a, .int .i64 b, .int .i64 c, .int .i64 d], .int .i64 x, .int .i64 y] w (Rt w (.bool (hasB a b c d x y))) := by
  go_enter Tryz.func93, Tryz.ntmps93
  go_wp2
  all_goals
    go_ret
    refine Rt.bool ?_ ?_
    · simp [hasB] <;> omega
    · repeat (first | with_reducible exact Gr.refl _ | with_reducible apply Gr.drew | with_reducible apply Gr.drewN | with_reducible apply Gr.grow | with_reducible apply Gr.alloc | (with_reducible refine Gr.setCell ?_ ?_ _; rotate_left; (simp; try omega)))

set_option maxHeartbeats 400000 in
theorem refempty1 (a b c d : Int) (w : World) :
    Calls Tryz.prog 195 #[.agg #[.int .i64 a, .int .i64 b, .int .i64 c, .int .i64 d]] w (Rt w (.bool (emptyB a b c d))) := by
  go_enter Tryz.func195, Tryz.ntmps195
  go_wp2
  all_goals
    go_ret
    refine Rt.bool ?_ ?_
    · simp [emptyB] <;> omega
    · repeat (first | with_reducible exact Gr.refl _ | with_reducible apply Gr.drew | with_reducible apply Gr.drewN | with_reducible apply Gr.grow | with_reducible apply Gr.alloc | (with_reducible refine Gr.setCell ?_ ?_ _; rotate_left; (simp; try omega)))

set_option maxHeartbeats 400000 in
theorem refhas1 (a b c d x y : Int) (w : World) :
    Calls Tryz.prog 79 #[.agg #[.int .i64 a, .int .i64 b, .int .i64 c, .int .i64 d], .int .i64 x, .int .i64 y] w (Rt w (.bool (hasB a b c d x y))) := by
  go_enter Tryz.func79, Tryz.ntmps79
  go_wp2
  all_goals
    go_ret
    refine Rt.bool ?_ ?_
    · simp [hasB] <;> omega
    · repeat (first | with_reducible exact Gr.refl _ | with_reducible apply Gr.drew | with_reducible apply Gr.drewN | with_reducible apply Gr.grow | with_reducible apply Gr.alloc | (with_reducible refine Gr.setCell ?_ ?_ _; rotate_left; (simp; try omega)))

end Go.Proofs.YtablogiielclaaaGreat
namespace Go.Proofs.YtablogiielclaaaGreat
open Go.ChangeShapes Go.WideShapes Go.ChangeAt Go.RowKit Go.Joins Go.Sort

section
variable {H : Type} {enc : TypeId × Value → H} {P : Program}
/-- The row's last step behind a call that lays blocks of its own and turns nothing that was there. -/
theorem close_below {f : Func} {s : ChangeSpec} {apart fresh handsOn again : Bool} {W W' : World} {args : Array Value} {v : Value} {ds gs : List (DataW H)} {before pa pv : List MemPlace}
    (hW : DataW.Whole enc P f.params.toList s.vars apart W args.toList ds gs before)
    (hres : ∀ (b : Nat) (sp : Nat → Bool) (hd : Bool), DataW.TrodAll enc P W' b sp hd f.resultTypes.toList (v.resultList f.resultTypes.size) (s.fn H (ds ++ gs)).results [])
    (hargs : ∀ sp : Nat → Bool, (∀ p ∈ before, sp p.block = true) → DataW.TrodAll enc P W' 0 sp true f.params.toList args.toList (s.fn H (ds ++ gs)).args pa)
    (hvars : ∀ sp : Nat → Bool, (∀ p ∈ before, sp p.block = true) → DataW.TrodVars enc P W' sp s.vars (s.fn H (ds ++ gs)).vars pv)
    (hps : before = pa ++ pv) (hb : Below W.heap.size W W')
    (hok : ∀ (j : Nat) (t : TypeId) (r : Value), f.resultTypes[j]? = some t → (v.resultList f.resultTypes.size)[j]? = some r → Value.okWide P W' .any 0 t r) :
    s.post enc P f apart fresh handsOn again W args v W' := by
  have old : ∀ p ∈ before, p.block < W.heap.size := fun p hp => hW.lt p hp
  have olds : ∀ p ∈ before, (fun b => decide (b < W.heap.size)) p.block = true := fun p hp => by simpa using old p hp
  refine ⟨ds, gs, before, [], pa, pv, hW, hres _ _ _, hargs _ olds, hvars _ olds, World.keptBut_mono (fun p hp => ⟨hp, ?_⟩) (hb.frame (· ∈ before)), fun _ => ?_⟩
  · rw [hps, List.mem_append] at hp
    exact Or.inr hp
  · obtain ⟨_, _, _, _, _, fz, nd⟩ := hW
    refine ⟨hok, _, _, ([] ++ pa) ++ pv, ⟨[] ++ pa, pv, trodAll_append (hargs _ (fun _ _ => rfl)) (hres _ _ _), hvars _ (fun _ _ => rfl), rfl, ?_, ?_⟩, ?_⟩
    · intro b off hp
      have there : MemPlace.cell b off ∈ before := by rw [hps]; simpa using hp
      rw [hb.frozen (old _ there)]
      exact fz b off there
    · intro ha
      have := nd ha
      rw [hps] at this
      simpa using this
    · intro p hp _
      rw [hps]
      simpa using hp
end

def I64 (n : Int) : Prop := -9223372036854775808 ≤ n ∧ n ≤ 9223372036854775807
theorem I64.of_wf {n : Int} (h : (Lit.int .i64 n).wf = true) : I64 n := by
  simp [Lit.wf, IntKind.min, IntKind.max, IntKind.bits, IntKind.signed] at h
  unfold I64
  omega

theorem laidOut : laidOutB Tryz.prog = true := by kernel_rfl
theorem own : ownKnob Tryz.prog.godebug = none := by kernel_rfl

end Go.Proofs.YtablogiielclaaaGreat
namespace Go.Proofs.YtablogiielclaaaGreat
open Go.ChangeShapes Go.WideShapes Go.ChangeAt Go.RowKit Go.Joins Go.Sort

theorem cellsRect : Tryz.prog.cellsOf 31 = 4 := by kernel_rfl

section
variable {H : Type} {enc : TypeId × Value → H} {w : World} {base b0 : Nat} {r : Reach} {spare : Nat → Bool} {held : Bool}
set_option maxRecDepth 100000 in
/-- A rectangle that came in by value. -/
theorem open_rect {v : Value} {dd : DataW H} {p : List MemPlace} (hv : Value.okWide Tryz.prog w r b0 31 v) (h : DataW.Trod enc Tryz.prog w base spare held 31 v dd p) :
    ∃ a b c d : Int, v = .agg #[.int .i64 a, .int .i64 b, .int .i64 c, .int .i64 d] ∧ dd = .agg [.lit (.int .i64 a), .lit (.int .i64 b), .lit (.int .i64 c), .lit (.int .i64 d)] ∧ p = [] ∧
      (Lit.int .i64 a).wf = true ∧ (Lit.int .i64 b).wf = true ∧ (Lit.int .i64 c).wf = true ∧ (Lit.int .i64 d).wf = true := by
  obtain ⟨a0, a1, a2, a3, y0, y1, y2, y3, m, rfl, rfl, rfl, hy0, hy1, hy2, hy3⟩ := open_agg4 Tryz.underlying31 (by kernel_rfl) cellsRect hv h
  obtain ⟨a, e0, rfl, wa⟩ := DataW.trod_int Tryz.underlying3 hy0
  obtain ⟨b, e1, rfl, wb⟩ := DataW.trod_int Tryz.underlying3 hy1
  obtain ⟨c, e2, rfl, wc⟩ := DataW.trod_int Tryz.underlying3 hy2
  obtain ⟨d, e3, rfl, wd⟩ := DataW.trod_int Tryz.underlying3 hy3
  simp at e0 e1 e2 e3
  subst e0 e1 e2 e3
  exact ⟨a, b, c, d, rfl, rfl, rfl, wa, wb, wc, wd⟩
set_option maxRecDepth 100000 in
theorem shut_rect {a b c d : Int} (wa : (Lit.int .i64 a).wf = true) (wb : (Lit.int .i64 b).wf = true) (wc : (Lit.int .i64 c).wf = true) (wd : (Lit.int .i64 d).wf = true) :
    DataW.Trod enc Tryz.prog w base spare held 31 (.agg #[.int .i64 a, .int .i64 b, .int .i64 c, .int .i64 d]) (.agg [.lit (.int .i64 a), .lit (.int .i64 b), .lit (.int .i64 c), .lit (.int .i64 d)]) [] :=
  shut_agg4 (y0 := (.lit (.int .i64 a), [])) (y1 := (.lit (.int .i64 b), [])) (y2 := (.lit (.int .i64 c), [])) (y3 := (.lit (.int .i64 d), [])) Tryz.underlying31 (by kernel_rfl) cellsRect ⟨1, by simp [DataW.trod, Tryz.underlying3, wa]⟩ ⟨1, by simp [DataW.trod, Tryz.underlying3, wb]⟩ ⟨1, by simp [DataW.trod, Tryz.underlying3, wc]⟩ ⟨1, by simp [DataW.trod, Tryz.underlying3, wd]⟩
end

end Go.Proofs.YtablogiielclaaaGreat
namespace Go.Proofs.YtablogiielclaaaGreat
open Go.RowKit Go.Sort

structure Rc where
  a : Int
  b : Int
  c : Int
  d : Int
def cutR (a b c d a' b' c' d' : Int) : Rc :=
  if emptyB (max a a') (max b b') (min c c') (min d d') = true then ⟨0, 0, 0, 0⟩ else ⟨max a a', max b b', min c c', min d d'⟩
theorem cutR_t {a b c d a' b' c' d' p q r s : Int} (e : emptyB p q r s = true) (h : max a a' = p ∧ max b b' = q ∧ min c c' = r ∧ min d d' = s) :
    (cutR a b c d a' b' c' d').a = 0 ∧ (cutR a b c d a' b' c' d').b = 0 ∧ (cutR a b c d a' b' c' d').c = 0 ∧ (cutR a b c d a' b' c' d').d = 0 := by
  obtain ⟨h1, h2, h3, h4⟩ := h
  unfold cutR; rw [h1, h2, h3, h4, if_pos e]; exact ⟨rfl, rfl, rfl, rfl⟩
theorem cutR_f {a b c d a' b' c' d' p q r s : Int} (e : emptyB p q r s = false) (h : max a a' = p ∧ max b b' = q ∧ min c c' = r ∧ min d d' = s) :
    (cutR a b c d a' b' c' d').a = p ∧ (cutR a b c d a' b' c' d').b = q ∧ (cutR a b c d a' b' c' d').c = r ∧ (cutR a b c d a' b' c' d').d = s := by
  obtain ⟨h1, h2, h3, h4⟩ := h
  unfold cutR; rw [h1, h2, h3, h4, if_neg (by simp [e])]; exact ⟨rfl, rfl, rfl, rfl⟩
def meetsB (a b c d a' b' c' d' : Int) : Bool := !emptyB (max a a') (max b b') (min c c') (min d d')
def coversB (a b c d a' b' c' d' : Int) : Bool := emptyB a' b' c' d' || decide (a ≤ a' ∧ b ≤ b' ∧ c' ≤ c ∧ d' ≤ d)
def clamp (n : Int) : Int := min (max n (-1048576)) 1048576
def goodR (a b c d : Int) : Rc := ⟨min (clamp a) (clamp c), min (clamp b) (clamp d), max (clamp a) (clamp c), max (clamp b) (clamp d)⟩
def around (n m : Int) : Int := if n < 0 then -((n + 1).tmod m) else n % m
def smallR (a b c d : Int) : Rc := ⟨around a 24 - 4, around b 24 - 4, around a 24 - 4 + around c 13, around b 24 - 4 + around d 13⟩

theorem around_bd (n m : Int) (hm : 1 ≤ m) : 0 ≤ around n m ∧ around n m < m := by
  unfold around
  split
  · rw [← Int.neg_tmod, Int.tmod_eq_emod_of_nonneg (by omega)]
    exact ⟨Int.emod_nonneg _ (by omega), Int.emod_lt_of_pos _ (by omega)⟩
  · exact ⟨Int.emod_nonneg _ (by omega), Int.emod_lt_of_pos _ (by omega)⟩

theorem Rt.rect {w w' : World} {a b c d : Int} {r : Rc} (h : r.a = a ∧ r.b = b ∧ r.c = c ∧ r.d = d) (hg : Gr w w') :
    Rt w (.agg #[.int .i64 r.a, .int .i64 r.b, .int .i64 r.c, .int .i64 r.d]) (.returned (.agg #[.int .i64 a, .int .i64 b, .int .i64 c, .int .i64 d])) w' := by
  obtain ⟨rfl, rfl, rfl, rfl⟩ := h
  exact ⟨rfl, hg⟩

set_option maxHeartbeats 400000 in
theorem around1 (n m : Int) (w : World) (hn : I64 n) (hm : 1 ≤ m ∧ m ≤ 1000000) :
    Calls Tryz.prog 47 #[.int .i64 n, .int .i64 m] w fun e w' => e = .returned (.int .i64 (around n m)) ∧ w = w' := by
  obtain ⟨hn1, hn2⟩ := hn
  obtain ⟨hm1, hm2⟩ := hm
  go_enter Tryz.func47, Tryz.ntmps47
  go_wp2
  all_goals
    go_ret
    refine ⟨ret_int ?_, rfl⟩
    unfold around
    first | rw [if_pos ‹_›] | rw [if_neg (by omega)]

attribute [local go_sem] cell?_grow frozen?_grow nlt_r
attribute [local go_sem ↓] run_min2 run_max2

set_option maxHeartbeats 2000000 in
theorem cut1 (a b c d a' b' c' d' : Int) (w : World) :
    Calls Tryz.prog 102 #[.agg #[.int .i64 a, .int .i64 b, .int .i64 c, .int .i64 d], .agg #[.int .i64 a', .int .i64 b', .int .i64 c', .int .i64 d']] w
      (Rt w (.agg #[.int .i64 (cutR a b c d a' b' c' d').a, .int .i64 (cutR a b c d a' b' c' d').b, .int .i64 (cutR a b c d a' b' c' d').c, .int .i64 (cutR a b c d a' b' c' d').d])) := by
  go_enter Tryz.func102, Tryz.ntmps102
  go_wp2_with fail
  all_goals
    refine (empty1 _ _ _ _ _).mono ?_
    rintro e w' ⟨rfl, ⟨⟨n, os⟩, rfl⟩⟩
    go_wp2
    all_goals
      go_returns
      refine Rt.rect (by first | exact cutR_t ‹_› (by omega) | exact cutR_f ‹_› (by omega)) ?_
      repeat (first | with_reducible exact Gr.refl _ | with_reducible apply Gr.drew | with_reducible apply Gr.drewN | with_reducible apply Gr.grow | with_reducible apply Gr.alloc | (with_reducible refine Gr.setCell ?_ ?_ _; rotate_left; (simp; try omega)))

end Go.Proofs.YtablogiielclaaaGreat
namespace Go.Proofs.YtablogiielclaaaGreat
open Go.ChangeShapes Go.WideShapes Go.ChangeAt Go.RowKit Go.Joins Go.Sort Go.Deep

/-- What was there is as it was. -/
def Bl (w w' : World) : Prop := Below w.heap.size w w'
theorem Bl.refl (w : World) : Bl w w := Below.refl _ _
theorem Bl.trans {a b c : World} (h : Bl a b) (k : Bl b c) : Bl a c := Below.trans h (Below.mono k h.size)
theorem Gr.bl {a b : World} (h : Gr a b) : Bl a b := h.below
theorem Bl.alloc {a b : World} (h : Bl a b) (o : Obj) : Bl a (b.alloc o) := h.trans ((Gr.refl b).alloc o).bl
theorem Bl.drew {a b : World} (h : Bl a b) : Bl a b.drew := h.trans (Gr.refl b).drew.bl
theorem Bl.drewN {a b : World} (h : Bl a b) (n : Nat) : Bl a (b.drewN n) := h.trans ((Gr.refl b).drewN n).bl
theorem Bl.grow {a b : World} (h : Bl a b) (os : Array Obj) : Bl a (Go.Sort.grow b os) := h.trans ((Gr.refl b).grow os).bl
theorem Bl.gr {a b c : World} (h : Bl a b) (k : Gr b c) : Bl a c := h.trans k.bl
theorem Bl.setCell {a b : World} (h : Bl a b) {p : Addr} (hp : a.heap.size ≤ p.block) (u : Value) : Bl a (b.setCell p u) := Below.setCell h hp u
theorem Bl.size {a b : World} (h : Bl a b) : a.heap.size ≤ b.heap.size := Below.size h
theorem Bl.cell {a b : World} (h : Bl a b) {p : Addr} (hp : p.block < a.heap.size) : b.cell? p = a.cell? p := Below.cell h hp
theorem Bl.frozen {a b : World} (h : Bl a b) {p : Addr} (hp : p.block < a.heap.size) : b.frozen? p = a.frozen? p := Below.frozen h hp
theorem Bl.keep {a b : World} (h : Bl a b) {p : Addr} {v : Value} (hp : a.cell? p = some v) : b.cell? p = some v :=
  (h.cell (World.block_lt_of_cell? a p hp)).trans hp
theorem Bl.grown {a b c : World} {row : Option Nat} (h : Bl a b) (g : b.grownBy c row) (hr : ∀ k, row = some k → a.heap.size ≤ k) : Bl a c :=
  ⟨g.os.trans (Below.os h), g.tape.trans (Below.tape h), g.output.trans (Below.output h), Nat.le_trans h.size g.size,
    fun k hk => (g.block k (Nat.lt_of_lt_of_le hk h.size) (fun e => by have := hr k e.symm; omega)).trans (Below.block h k hk)⟩
theorem At.bl {w w' : World} {b : Nat} {cs : Array Value} {t : TypeId} (h : At w b cs t) (g : Bl w w') : At w' b cs t := by
  have := Below.block g b h.lt
  unfold At at *; rw [this]; exact h
theorem At.grown {w w' : World} {b : Nat} {cs : Array Value} {t : TypeId} {row : Option Nat} (h : At w b cs t) (g : w.grownBy w' row) (hne : some b ≠ row) : At w' b cs t := by
  have := g.block b h.lt hne
  unfold At at *; rw [this]; exact h

theorem list_at {α : Type} {l : List α} {k : Nat} (h : k < l.length) : ∃ x, l[k]? = some x := ⟨l[k], List.getElem?_eq_getElem h⟩

theorem own_cap {w : World} {B s n m c : Nat} {e : TypeId} {A : Option Addr} {xs : List Value} (h : w.ownsRow B e s (.slice A m c) n xs) (_hm : m = n) : n ≤ c := by
  rcases h.2 with ⟨h1, h2⟩ | ⟨g, cap, cur, h1, _, _, h4, _⟩
  · omega
  · injection h1 with a b c'; omega
theorem slice_block (A : Option Addr) (n c : Nat) : (Value.slice A n c).ownBlock = A.map (·.block) := by cases A <;> rfl
theorem Bl.by {w w' : World} (h : Bl w w') : w.grownBy w' none := ⟨Below.os h, Below.tape h, Below.output h, h.size, fun k hk _ => Below.block h k hk⟩
theorem By.trans {a b c : World} {row : Option Nat} (h : a.grownBy b row) (k : b.grownBy c row) : a.grownBy c row :=
  ⟨k.os.trans h.os, k.tape.trans h.tape, k.output.trans h.output, Nat.le_trans h.size k.size, fun i hi hne => (k.block i (Nat.lt_of_lt_of_le hi h.size) hne).trans (h.block i hi hne)⟩
theorem By.refl (w : World) (row : Option Nat) : w.grownBy w row := ⟨rfl, rfl, rfl, Nat.le_refl _, fun _ _ _ => rfl⟩
theorem Bl.byr {a b : World} (h : Bl a b) (row : Option Nat) : a.grownBy b row := ⟨Below.os h, Below.tape h, Below.output h, h.size, fun k hk _ => Below.block h k hk⟩
theorem By.set {a b : World} {p : Addr} (h : a.grownBy b (some p.block)) (u : Value) : a.grownBy (b.setCell p u) (some p.block) :=
  ⟨h.os, h.tape, h.output, by simpa using h.size, fun k hk hne => (Below.heap_setCell _ _ _ _ (fun e => hne (congrArg some e))).trans (h.block k hk hne)⟩
theorem By.none {a b : World} (h : a.grownBy b none) : Bl a b := ⟨h.os, h.tape, h.output, h.size, fun k hk => h.block k hk (by simp)⟩

theorem add_lit' (b off j : Nat) : (⟨b, off, none⟩ : Addr).add j = ⟨b, off + j, none⟩ := by unfold Addr.add; split <;> simp_all
theorem own_addr {w : World} {B s n c : Nat} {e : TypeId} {A : Option Addr} {xs : List Value} (h : w.ownsRow B e s (.slice A n c) n xs) : (A = none ∧ c = 0 ∧ n = 0) ∨ ∃ g, A = some ⟨g, 0, none⟩ ∧ B ≤ g ∧ g < w.heap.size := by
  rcases h.2 with ⟨h1, h2⟩ | ⟨g, cap, cur, h1, h2, h3, _⟩
  · left
    injection h1 with a b c'
    exact ⟨a, c', h2⟩
  · right
    injection h1 with a b c'
    refine ⟨g, a, h2, ?_⟩
    rcases Nat.lt_or_ge g w.heap.size with hl | hl
    · exact hl
    · rw [Array.getElem?_eq_none hl] at h3; cases h3
theorem own_caps {w : World} {B s n c : Nat} {e : TypeId} {A : Option Addr} {xs : List Value} (h : w.ownsRow B e s (.slice A n c) n xs) : n ≤ c ∧ c ≤ maxLen ∧ (A = none → c = 0) := by
  rcases h.2 with ⟨h1, h2⟩ | ⟨g, cap, cur, h1, h2, h3, h4, h5, _⟩
  · injection h1 with a b c'
    subst c'
    exact ⟨by omega, Nat.zero_le _, fun _ => rfl⟩
  · injection h1 with a b c'
    subst c'
    exact ⟨h4, h5, fun h => by rw [a] at h; cases h⟩
/-- What else has turned, where a row was added to. -/
theorem app_bl {w0 w w' : World} {A : Option Addr} {B : Nat} (g : w.grownBy w' (A.map (·.block))) (h : Bl w0 w) (hA : A = none ∨ ∃ k, A = some ⟨k, 0, none⟩ ∧ B ≤ k ∧ k < w.heap.size) (hB : w0.heap.size ≤ B) : Bl w0 w' :=
  h.grown g (fun k hk => by
    rcases hA with rfl | ⟨k', rfl, h1, _⟩
    · cases hk
    · simp at hk; omega)

theorem run_app_empty {w : World} {B : Nat} {t ty e : TypeId} {i : TypeInfo} {size : Nat} (ht : Tryz.prog.underlying t = some (.slice e)) (hi : Tryz.prog.info? e = some i)
    {v : Value} {n : Nat} {xs : List Value} (hown : w.ownsRow B e size v n xs) (a : Option Addr) (c : Nat) (hac : a = none → c = 0) :
    (Builtin.append_ #[t, t] ty #[v, .slice a 0 c]).run Tryz.prog w = .ok v w := by
  cases a with
  | none => obtain rfl := hac rfl; exact run_append_owned_none w B t ty e i size ht hi v n xs hown
  | some a =>
    have hl : (loadCells a 0).run Tryz.prog w = .ok #[] w := by simpa using run_loadCells_list (P := Tryz.prog) w a [] (by simp)
    rcases hown.2 with ⟨rfl, rfl⟩ | ⟨g, cap, cur, rfl, _, _, hnc, _⟩
    · simp [Builtin.append_, run_underlying ht, sizeOf, typeInfo, hi, Builtin.lenOf, Builtin.firstCells, hl]
    · simp [Builtin.append_, run_underlying ht, sizeOf, typeInfo, hi, Builtin.lenOf, Builtin.firstCells, hl, hnc, storeCells]

theorem slice_nil_block : (Value.slice none 0 0).ownBlock = none := rfl
theorem own_empty {w : World} {B e size : Nat} {A : Option Addr} {n c : Nat} {xs : List Value} (h : w.ownsRow B e size (.slice A n c) n xs) (hA : A = none) : n = 0 ∧ c = 0 := by
  rcases own_addr h with ⟨_, h1, h2⟩ | ⟨g, h1, _⟩
  · exact ⟨h2, h1⟩
  · rw [hA] at h1; cases h1

/-- New cells: none, or they lie. -/
def News (w : World) (A1 : Option Addr) (m : Nat) (news : List Value) : Prop := (m = 0 ∧ news = []) ∨ ∃ b off, A1 = some ⟨b, off, none⟩ ∧ ∀ j u, news[j]? = some u → w.cell? ⟨b, off + j, none⟩ = some u
theorem News.at {w : World} {g : Nat} {xs : List Value} {t : TypeId} (m : Nat) (h : At w g xs.toArray t) : News w (some ⟨g, 0, none⟩) m xs := by
  refine .inr ⟨g, 0, rfl, fun j u hj => ?_⟩
  rw [Nat.zero_add, h.cell j]
  simpa using hj
/-- Cells are added to a row that the call owns. -/
theorem run_app_gen {t e size bytes : Nat} {z : Value} (ht : Tryz.prog.underlying t = some (.slice e)) (hinfo : (Tryz.prog.info? e).map (fun i => (i.zero, i.size, i.bytes)) = some (some z, size, bytes)) (hzs : z.cells.size = size) (hsz : 0 < size)
    {w : World} {B n c : Nat} {A : Option Addr} {xs : List Value} (hown : w.ownsRow B e size (.slice A n c) n xs) {A1 : Option Addr} {m c1 : Nat} {news : List Value} (h1 : A1 = none → c1 = 0) (hl : news.length = m * size) (hN : News w A1 m news)
    (hone : ∀ u ∈ news, u.oneCell' = true) (hlen : n + m ≤ 1000000000) (hby : bytes ≤ 1000) (hB : B ≤ w.heap.size) (ty : TypeId) :
    ∃ A' c' w', (Builtin.append_ #[t, t] ty #[.slice A n c, .slice A1 m c1]).run Tryz.prog w = .ok (.slice A' (n + m) c') w' ∧ w'.ownsRow B e size (.slice A' (n + m) c') (n + m) (xs ++ news) ∧ w.grownBy w' (A.map (·.block)) ∧ (A'.map (·.block) = A.map (·.block) ∨ A'.map (·.block) = some w.heap.size) := by
  obtain ⟨i0, hi, hz0, hz1, hz2⟩ := info_parts hinfo
  by_cases hm : m = 0
  · subst hm
    obtain rfl : news = [] := List.eq_nil_of_length_eq_zero (by rw [hl, Nat.zero_mul])
    exact ⟨A, c, w, run_app_empty (B := B) ht hi hown A1 c1 h1, by simpa using hown, By.refl _ _, .inl rfl⟩
  · obtain ⟨b, off, rfl, hrow⟩ : ∃ b off, A1 = some ⟨b, off, none⟩ ∧ ∀ j u, news[j]? = some u → w.cell? ⟨b, off + j, none⟩ = some u := by
      rcases hN with h | h
      · exact absurd h.1 hm
      · exact h
    have hb : (n + m) * bytes ≤ 140737488355328 := Nat.le_trans (Nat.mul_le_mul hlen hby) (by omega)
    obtain ⟨g, cap, w', hr, q1, q2, q3, q4⟩ := run_append_lies (P := Tryz.prog) w t ty B e i0 z size bytes ht hi hz0 hz1 hz2 hzs hsz (.slice A n c) n xs hown
      ⟨b, off, none⟩ m c1 news hl (fun j u hj => by rw [add_lit']; exact hrow j u hj) hone (by omega) (by unfold maxLen; omega) hb hB w.heap.size rfl
    rw [slice_block] at q2 q3
    refine ⟨some ⟨g, 0, none⟩, cap, w', hr, q1, q2, ?_⟩
    rcases q3 with q3 | q3
    · exact .inl q3.symm
    · right; rw [q3]; rfl
theorem wp_app_gen {t e size bytes : Nat} {z : Value} (ht : Tryz.prog.underlying t = some (.slice e)) (hinfo : (Tryz.prog.info? e).map (fun i => (i.zero, i.size, i.bytes)) = some (some z, size, bytes)) (hzs : z.cells.size = size) (hsz : 0 < size) (hby : bytes ≤ 1000)
    {ops : Array Oper} {rest : List Oper} {o : Oper} {a : Act} {w : World} {Q : Exit → Act → World → Prop} (hgd : o.guard = none) (s x : Operand)
    (ho : o.op = .call { callee := .builtin .append, args := #[s, x], argTypes := #[t, t] }) (A : Option Addr) (n c : Nat) (xs : List Value) (hs : a.eval s = .slice A n c) (B : Nat) (hown : w.ownsRow B e size (.slice A n c) n xs)
    (A1 : Option Addr) (m c1 : Nat) (news : List Value) (hx : a.eval x = .slice A1 m c1) (h1 : A1 = none → c1 = 0) (hl : news.length = m * size) (hN : News w A1 m news) (hone : ∀ u ∈ news, u.oneCell' = true) (hlen : n + m ≤ 1000000000) (hB : B ≤ w.heap.size)
    (h : ∀ A' c' w', w'.ownsRow B e size (.slice A' (n + m) c') (n + m) (xs ++ news) → w.grownBy w' (A.map (·.block)) → (A'.map (·.block) = A.map (·.block) ∨ A'.map (·.block) = some w.heap.size) → wpList Tryz.prog ops Q rest (a.put o.dst (.slice A' (n + m) c')) w') :
    wpList Tryz.prog ops Q (o :: rest) a w := by
  refine wpList_plain hgd fun K hK => ?_
  obtain ⟨A', c', w', hr, q1, q2, q3⟩ := run_app_gen ht hinfo hzs hsz hown h1 hl hN hone hlen hby hB o.type
  unfold Oper.wp execOp
  simp only [ho, resolve, invoke, builtin, Sem.run_bind, Sem.run_pure, Result.andThen_ok, List.map_toArray, List.map_cons, List.map_nil, hs, hx, hr]
  exact hK _ _ (h A' c' w' q1 q2 q3)

theorem step_app_gen {t e size bytes : Nat} {z : Value} (ht : Tryz.prog.underlying t = some (.slice e)) (hinfo : (Tryz.prog.info? e).map (fun i => (i.zero, i.size, i.bytes)) = some (some z, size, bytes)) (hzs : z.cells.size = size) (hsz : 0 < size) (hby : bytes ≤ 1000)
    {ops : Array Oper} {o : Oper} {a : Act} {w : World} {K : Act → World → Prop} {Q : Exit → Act → World → Prop} {E : Prop} (hgd : o.guard = none) (s x : Operand)
    (ho : o.op = .call { callee := .builtin .append, args := #[s, x], argTypes := #[t, t] }) (A : Option Addr) (n c : Nat) (xs : List Value) (hs : a.eval s = .slice A n c) (B : Nat) (hown : w.ownsRow B e size (.slice A n c) n xs)
    (A1 : Option Addr) (m c1 : Nat) (news : List Value) (hx : a.eval x = .slice A1 m c1) (h1 : A1 = none → c1 = 0) (hl : news.length = m * size) (hN : News w A1 m news) (hone : ∀ u ∈ news, u.oneCell' = true) (hlen : n + m ≤ 1000000000) (hB : B ≤ w.heap.size)
    (h : ∀ A' c' w', w'.ownsRow B e size (.slice A' (n + m) c') (n + m) (xs ++ news) → w.grownBy w' (A.map (·.block)) → (A'.map (·.block) = A.map (·.block) ∨ A'.map (·.block) = some w.heap.size) → K (a.put o.dst (.slice A' (n + m) c')) w') :
    if Region.wanted o (yielded ops a.tmps) = true then Oper.wp Tryz.prog o a w K Q else E := by
  have hw : Region.wanted o (yielded ops a.tmps) = true := by simp [Region.wanted, hgd]
  rw [if_pos hw]
  obtain ⟨A', c', w', hr, q1, q2, q3⟩ := run_app_gen ht hinfo hzs hsz hown h1 hl hN hone hlen hby hB o.type
  unfold Oper.wp execOp
  simp only [ho, resolve, invoke, builtin, Sem.run_bind, Sem.run_pure, Result.andThen_ok, List.map_toArray, List.map_cons, List.map_nil, hs, hx, hr]
  exact h A' c' w' q1 q2 q3


/-- How an element of a row lies: so many cells, each of one value. -/
structure Shp (α : Type) where
  n : Nat
  c : α → List Value
  len : ∀ x, (c x).length = n
  one : ∀ x, ∀ u ∈ c x, u.oneCell' = true
  pos : 0 < n
namespace Shp
variable {α : Type} (S : Shp α)
/-- The cells of a list. -/
def cs (l : List α) : List Value := l.flatMap S.c
theorem cs_nil : S.cs [] = [] := rfl
theorem cs_cons (x : α) (l : List α) : S.cs (x :: l) = S.c x ++ S.cs l := rfl
theorem cs_one (x : α) : S.cs [x] = S.c x := by simp [cs]
theorem cs_app (l m : List α) : S.cs (l ++ m) = S.cs l ++ S.cs m := by simp [cs]
theorem cs_len : ∀ l : List α, (S.cs l).length = l.length * S.n
  | [] => by simp [cs]
  | x :: l => by rw [cs_cons, List.length_append, S.len, cs_len l, List.length_cons, Nat.add_mul]; omega
theorem cs_get : ∀ (l : List α) (k : Nat) (x : α) (j : Nat), l[k]? = some x → j < S.n → (S.cs l)[k * S.n + j]? = (S.c x)[j]?
  | [], k, x, j, h, _ => by simp at h
  | y :: l, 0, x, j, h, hj => by
    simp at h; subst h
    rw [cs_cons, List.getElem?_append_left (by rw [S.len]; omega), Nat.zero_mul, Nat.zero_add]
  | y :: l, k + 1, x, j, h, hj => by
    rw [cs_cons, List.getElem?_append_right (by rw [S.len, Nat.add_mul]; omega)]
    rw [show (k + 1) * S.n + j - (S.c y).length = k * S.n + j from by rw [S.len, Nat.add_mul]; omega]
    exact cs_get l k x j (by simpa using h) hj
theorem cs_ones (l : List α) : ∀ u ∈ S.cs l, u.oneCell' = true := by
  intro u h
  simp only [cs, List.mem_flatMap] at h
  obtain ⟨x, _, hx⟩ := h
  exact S.one x u hx
/-- From cell off of block b on lie these elements. -/
def Row (w : World) (b off : Nat) (l : List α) : Prop := ∀ k x, l[k]? = some x → ∀ j u, (S.c x)[j]? = some u → w.cell? ⟨b, off + k * S.n + j, none⟩ = some u
/-- A slice of this address reads so. -/
def Rd (w : World) (A : Option Addr) (l : List α) : Prop := l = [] ∨ ∃ b off, A = some ⟨b, off, none⟩ ∧ S.Row w b off l
/-- The call owns this row. -/
def Ow (T : TypeId) (w : World) (B : Nat) (A : Option Addr) (c : Nat) (l : List α) : Prop := w.ownsRow B T S.n (.slice A l.length c) l.length (S.cs l)
variable {S}
theorem Row.by {w w' : World} {b off : Nat} {l : List α} (h : S.Row w b off l) {row : Option Nat} (g : w.grownBy w' row) (hne : some b ≠ row) : S.Row w' b off l := fun k x hk j u hj => g.cell (h k x hk j u hj) hne
theorem Row.bl {w w' : World} {b off : Nat} {l : List α} (h : S.Row w b off l) (g : Bl w w') : S.Row w' b off l := fun k x hk j u hj => g.keep (h k x hk j u hj)
theorem Row.drop {w : World} {b off : Nat} {l : List α} (h : S.Row w b off l) (n : Nat) : S.Row w b (off + n * S.n) (l.drop n) := fun k x hk j u hj => by
  rw [List.getElem?_drop] at hk
  rw [show off + n * S.n + k * S.n + j = off + (n + k) * S.n + j from by rw [Nat.add_mul]; omega]
  exact h _ _ hk j u hj
theorem Row.take {w : World} {b off : Nat} {l : List α} (h : S.Row w b off l) (n : Nat) : S.Row w b off (l.take n) := fun k x hk => by
  rw [List.getElem?_take] at hk
  split at hk
  · exact h _ _ hk
  · cases hk
theorem Row.lt {w : World} {b off : Nat} {l : List α} (h : S.Row w b off l) (hl : 0 < l.length) : b < w.heap.size := by
  obtain ⟨x, hx⟩ := list_at hl
  have h1 := S.len x
  have h2 := S.pos
  obtain ⟨u, hu⟩ := list_at (l := S.c x) (k := 0) (by omega)
  exact World.block_lt_of_cell? w _ (h 0 x hx 0 u hu)
theorem Row.news {w : World} {b off : Nat} {l : List α} (h : S.Row w b off l) : ∀ (j : Nat) (u : Value), (S.cs l)[j]? = some u → w.cell? ⟨b, off + j, none⟩ = some u := by
  intro j u hj
  have hl : j < l.length * S.n := by
    rw [← S.cs_len]
    rcases Nat.lt_or_ge j (S.cs l).length with h' | h'
    · exact h'
    · rw [List.getElem?_eq_none h'] at hj; cases hj
  have hp := S.pos
  have hd : j / S.n < l.length := Nat.div_lt_of_lt_mul (by rw [Nat.mul_comm]; exact hl)
  obtain ⟨x, hx⟩ := list_at hd
  have hm := Nat.mod_lt j hp
  have he : j / S.n * S.n + j % S.n = j := by rw [Nat.mul_comm]; exact Nat.div_add_mod j S.n
  have hg := S.cs_get l (j / S.n) x (j % S.n) hx hm
  rw [he, hj] at hg
  have := h (j / S.n) x hx (j % S.n) u hg.symm
  rw [Nat.add_assoc, he] at this
  exact this
theorem Rd.nil (w : World) (A : Option Addr) : S.Rd w A [] := .inl rfl
theorem Rd.opened {w : World} {A : Option Addr} {l : List α} (h : S.Rd w A l) (hl : 0 < l.length) : ∃ b off, A = some ⟨b, off, none⟩ ∧ S.Row w b off l := by
  rcases h with h | h
  · subst h; simp at hl
  · exact h
theorem Rd.by {w w' : World} {A : Option Addr} {l : List α} (h : S.Rd w A l) {row : Option Nat} (g : w.grownBy w' row) (hne : l = [] ∨ A = none ∨ A.map (·.block) ≠ row) : S.Rd w' A l := by
  rcases h with h | ⟨b, off, rfl, hr⟩
  · exact .inl h
  · rcases hne with hne | hne | hne
    · exact .inl hne
    · cases hne
    · exact .inr ⟨b, off, rfl, hr.by g hne⟩
theorem Rd.bl {w w' : World} {A : Option Addr} {l : List α} (h : S.Rd w A l) (g : Bl w w') : S.Rd w' A l := by
  rcases h with h | ⟨b, off, h1, h2⟩
  · exact .inl h
  · exact .inr ⟨b, off, h1, h2.bl g⟩
theorem Rd.lt {w : World} {A : Option Addr} {l : List α} (h : S.Rd w A l) (hl : l ≠ []) {k : Nat} (hk : A.map (·.block) = some k) : k < w.heap.size := by
  rcases h with h | ⟨b, off, rfl, hr⟩
  · exact absurd h hl
  · cases hk
    exact hr.lt (by cases l with | nil => exact absurd rfl hl | cons => simp)
/-- Elements that lie in a block of another kind are not in the way: block k is no row of cells. -/
theorem Rd.apart {w w' : World} {A : Option Addr} {l : List α} (h : S.Rd w A l) {k : Nat} (g : w.grownBy w' (some k)) (hk : ∀ i, w.cell? ⟨k, i, none⟩ = none) : S.Rd w' A l := by
  rcases h with h | ⟨b, off, rfl, hr⟩
  · exact .inl h
  · refine .inr ⟨b, off, rfl, fun i x hi j u hj => g.cell (hr i x hi j u hj) (fun e => ?_)⟩
    have h2 := hr i x hi j u hj
    have h3 : b = k := by simpa using e
    subst h3
    rw [hk] at h2
    cases h2
variable {T : TypeId}
theorem Ow.nil (w : World) (B : Nat) : S.Ow T w B none 0 [] := World.ownsRow_nil _ _ _ _
theorem Ow.lies {w : World} {B c : Nat} {A : Option Addr} {l : List α} (h : S.Ow T w B A c l) : A = none ∨ ∃ g, A = some ⟨g, 0, none⟩ ∧ B ≤ g ∧ g < w.heap.size := by
  rcases own_addr h with ⟨h1, _⟩ | h1
  · exact .inl h1
  · exact .inr h1
theorem Ow.rd {w : World} {B c : Nat} {A : Option Addr} {l : List α} (h : S.Ow T w B A c l) : S.Rd w A l := by
  rcases own_addr h with ⟨_, _, h1⟩ | ⟨g, rfl, _⟩
  · exact .inl (List.eq_nil_of_length_eq_zero h1)
  · refine .inr ⟨g, 0, rfl, fun k x hk j u hj => ?_⟩
    have hl : k < l.length := by
      rcases Nat.lt_or_ge k l.length with h' | h'
      · exact h'
      · rw [List.getElem?_eq_none h'] at hk; cases hk
    have hj' : j < S.n := by
      rw [← S.len x]
      rcases Nat.lt_or_ge j (S.c x).length with h' | h'
      · exact h'
      · rw [List.getElem?_eq_none h'] at hj; cases hj
    have q := World.ownsRow.cellAt h (k * S.n + j) (by
      have : (k + 1) * S.n ≤ l.length * S.n := Nat.mul_le_mul_right _ hl
      rw [Nat.add_mul] at this; omega)
    rw [Nat.zero_add, q, S.cs_get l k x j hk hj', hj]
theorem Ow.caps {w : World} {B c : Nat} {A : Option Addr} {l : List α} (h : S.Ow T w B A c l) : l.length ≤ c ∧ c ≤ maxLen ∧ (A = none → c = 0) := own_caps h
theorem Ow.by {w w' : World} {B c : Nat} {A : Option Addr} {l : List α} {row : Option Nat} (h : S.Ow T w B A c l) (g : w.grownBy w' row) (hne : A = none ∨ A.map (·.block) ≠ row) : S.Ow T w' B A c l :=
  World.ownsRow.kept h g (by rw [slice_block]; rcases hne with rfl | hne; exact .inl rfl; exact .inr hne)
theorem Ow.bl {w w' : World} {B c : Nat} {A : Option Addr} {l : List α} (h : S.Ow T w B A c l) (g : Bl w w') : S.Ow T w' B A c l :=
  h.by (g.byr none) (by cases A with | none => exact .inl rfl | some a => exact .inr (by simp))
theorem Ow.low {w : World} {B B' c : Nat} {A : Option Addr} {l : List α} (h : S.Ow T w B A c l) (hB : B' ≤ B) : S.Ow T w B' A c l := by
  obtain ⟨h0, h⟩ := h
  refine ⟨h0, ?_⟩
  rcases h with h | ⟨g, cap, cur, h1, h2, h3⟩
  · exact .inl h
  · exact .inr ⟨g, cap, cur, h1, Nat.le_trans hB h2, h3⟩
theorem Ow.above {w : World} {B c : Nat} {A : Option Addr} {l : List α} (h : S.Ow T w B A c l) {j : Nat} (hj : A.map (·.block) = some j) : B ≤ j := by
  rcases h.lies with h | ⟨g, rfl, h1, _⟩
  · subst h; cases hj
  · cases hj; exact h1
theorem Ow.app_bl {w0 w w1 w' : World} {B c : Nat} {A : Option Addr} {l : List α} (h : S.Ow T w B A c l) (g : w1.grownBy w' (A.map (·.block))) (h0 : Bl w0 w1) (hB : w0.heap.size ≤ B) : Bl w0 w' :=
  h0.grown g (fun k hk => by have := h.above hk; omega)
theorem Ow.set {w : World} {B c : Nat} {A : Option Addr} {l : List α} (h : S.Ow T w B A c l) {p : Addr} (hp : p.block < B) (u : Value) : S.Ow T (w.setCell p u) B A c l :=
  h.by (By.set (By.refl w _) u) (by
    rcases h.lies with h | ⟨g, rfl, h1, _⟩
    · exact .inl h
    · exact .inr (by simp; omega))
theorem Row.toNews {w : World} {A : Option Addr} {l : List α} (h : S.Rd w A l) : News w A l.length (S.cs l) := by
  rcases h with rfl | ⟨b, off, rfl, hr⟩
  · exact .inl ⟨rfl, rfl⟩
  · exact .inr ⟨b, off, rfl, hr.news⟩
/-- A slice's elements are added to a row that the call owns. -/
theorem wp_app {ts bytes : Nat} {z : Value} (ht : Tryz.prog.underlying ts = some (.slice T)) (hinfo : (Tryz.prog.info? T).map (fun i => (i.zero, i.size, i.bytes)) = some (some z, S.n, bytes)) (hzs : z.cells.size = S.n) (hby : bytes ≤ 1000)
    {ops : Array Oper} {rest : List Oper} {o : Oper} {a : Act} {w : World} {Q : Exit → Act → World → Prop} (hgd : o.guard = none) (s x : Operand)
    (ho : o.op = .call { callee := .builtin .append, args := #[s, x], argTypes := #[ts, ts] }) (A : Option Addr) (c : Nat) (l : List α) (hs : a.eval s = .slice A l.length c) (B : Nat) (hown : S.Ow T w B A c l)
    (A1 : Option Addr) (c1 : Nat) (m : List α) (hx : a.eval x = .slice A1 m.length c1) (h1 : A1 = none → c1 = 0) (hM : S.Rd w A1 m) (hlen : l.length + m.length ≤ 1000000000) (hB : B ≤ w.heap.size)
    (h : ∀ A' c' w', S.Ow T w' B A' c' (l ++ m) → w.grownBy w' (A.map (·.block)) → (A'.map (·.block) = A.map (·.block) ∨ A'.map (·.block) = some w.heap.size) → wpList Tryz.prog ops Q rest (a.put o.dst (.slice A' (l.length + m.length) c')) w') :
    wpList Tryz.prog ops Q (o :: rest) a w :=
  wp_app_gen ht hinfo hzs S.pos hby hgd s x ho A l.length c (S.cs l) hs B hown A1 m.length c1 (S.cs m) hx h1 (S.cs_len m) (Row.toNews hM) (S.cs_ones m) hlen hB
    (fun A' c' w' q1 q2 q3 => h A' c' w' (by unfold Ow; rw [S.cs_app, List.length_append]; exact q1) q2 q3)
theorem step_app {ts bytes : Nat} {z : Value} (ht : Tryz.prog.underlying ts = some (.slice T)) (hinfo : (Tryz.prog.info? T).map (fun i => (i.zero, i.size, i.bytes)) = some (some z, S.n, bytes)) (hzs : z.cells.size = S.n) (hby : bytes ≤ 1000)
    {ops : Array Oper} {o : Oper} {a : Act} {w : World} {K : Act → World → Prop} {Q : Exit → Act → World → Prop} {E : Prop} (hgd : o.guard = none) (s x : Operand)
    (ho : o.op = .call { callee := .builtin .append, args := #[s, x], argTypes := #[ts, ts] }) (A : Option Addr) (c : Nat) (l : List α) (hs : a.eval s = .slice A l.length c) (B : Nat) (hown : S.Ow T w B A c l)
    (A1 : Option Addr) (c1 : Nat) (m : List α) (hx : a.eval x = .slice A1 m.length c1) (h1 : A1 = none → c1 = 0) (hM : S.Rd w A1 m) (hlen : l.length + m.length ≤ 1000000000) (hB : B ≤ w.heap.size)
    (h : ∀ A' c' w', S.Ow T w' B A' c' (l ++ m) → w.grownBy w' (A.map (·.block)) → (A'.map (·.block) = A.map (·.block) ∨ A'.map (·.block) = some w.heap.size) → K (a.put o.dst (.slice A' (l.length + m.length) c')) w') :
    if Region.wanted o (yielded ops a.tmps) = true then Oper.wp Tryz.prog o a w K Q else E :=
  step_app_gen ht hinfo hzs S.pos hby hgd s x ho A l.length c (S.cs l) hs B hown A1 m.length c1 (S.cs m) hx h1 (S.cs_len m) (Row.toNews hM) (S.cs_ones m) hlen hB
    (fun A' c' w' q1 q2 q3 => h A' c' w' (by unfold Ow; rw [S.cs_app, List.length_append]; exact q1) q2 q3)
/-- One element that was just built. -/
theorem Rd.new1 {w : World} {g : Nat} {x : α} {t : TypeId} {xs : Array Value} (h : At w g xs t) (hx : xs.toList = S.c x) : S.Rd w (some ⟨g, 0, none⟩) [x] := by
  refine .inr ⟨g, 0, rfl, fun k y hk j u hj => ?_⟩
  cases k with
  | zero =>
    simp at hk; subst hk
    rw [show 0 + 0 * S.n + j = j from by simp, h.cell]
    rw [← Array.getElem?_toList, hx]; exact hj
  | succ k => simp at hk
end Shp

end Go.Proofs.YtablogiielclaaaGreat
namespace Go.Proofs.YtablogiielclaaaGreat
open Go.RowKit Go.Sort

/-- The cells of a rectangle, and of a list of them. -/
def c4 (r : Rc) : List Value := [.int .i64 r.a, .int .i64 r.b, .int .i64 r.c, .int .i64 r.d]
def cR : List Rc → List Value
  | [] => []
  | r :: l => c4 r ++ cR l
theorem cR_len : ∀ L : List Rc, (cR L).length = L.length * 4
  | [] => rfl
  | r :: l => by unfold cR; rw [List.length_append, cR_len l]; simp [c4]; omega
theorem cR_app : ∀ L M : List Rc, cR (L ++ M) = cR L ++ cR M
  | [], M => rfl
  | r :: l, M => by show c4 r ++ cR (l ++ M) = (c4 r ++ cR l) ++ cR M; rw [cR_app l M, List.append_assoc]
theorem cR_get : ∀ (L : List Rc) (k : Nat) (r : Rc) (j : Nat), L[k]? = some r → j < 4 → (cR L)[k * 4 + j]? = (c4 r)[j]?
  | [], k, r, j, h, _ => by simp at h
  | r' :: l, 0, r, j, h, hj => by
    simp at h; subst h
    unfold cR
    rw [List.getElem?_append_left (by simp [c4]; omega)]; simp
  | r' :: l, k + 1, r, j, h, hj => by
    unfold cR
    rw [List.getElem?_append_right (by simp [c4]; omega)]
    rw [show (k + 1) * 4 + j - (c4 r').length = k * 4 + j from by simp [c4]; omega]
    exact cR_get l k r j (by simpa using h) hj
theorem cR_one : ∀ (L : List Rc), ∀ u ∈ cR L, u.oneCell' = true
  | [], u, h => by simp [cR] at h
  | r :: l, u, h => by
    unfold cR at h
    rw [List.mem_append] at h
    rcases h with h | h
    · simp [c4] at h; rcases h with h | h | h | h <;> subst h <;> rfl
    · exact cR_one l u h

/-- The cells of a list of ints. -/
def cI (E : List Int) : List Value := E.map (Value.int .i64)
theorem cI_len (E : List Int) : (cI E).length = E.length := by simp [cI]
theorem cI_app (E F : List Int) : cI (E ++ F) = cI E ++ cI F := by simp [cI]
theorem cI_one (E : List Int) : ∀ u ∈ cI E, u.oneCell' = true := by
  intro u h; simp [cI] at h; obtain ⟨x, _, rfl⟩ := h; rfl

/-- From cell off of block b on lie these rectangles; ints. -/
def RowR (w : World) (b off : Nat) (L : List Rc) : Prop := ∀ k r, L[k]? = some r → w.cell? ⟨b, off + k * 4, none⟩ = some (.int .i64 r.a) ∧ w.cell? ⟨b, off + k * 4 + 1, none⟩ = some (.int .i64 r.b) ∧
  w.cell? ⟨b, off + k * 4 + 2, none⟩ = some (.int .i64 r.c) ∧ w.cell? ⟨b, off + k * 4 + 3, none⟩ = some (.int .i64 r.d)
def RowI (w : World) (b off : Nat) (E : List Int) : Prop := ∀ k x, E[k]? = some x → w.cell? ⟨b, off + k, none⟩ = some (.int .i64 x)
def Rs (w : World) (A : Option Addr) (L : List Rc) : Prop := L = [] ∨ ∃ b off, A = some ⟨b, off, none⟩ ∧ RowR w b off L
def Is (w : World) (A : Option Addr) (E : List Int) : Prop := E = [] ∨ ∃ b off, A = some ⟨b, off, none⟩ ∧ RowI w b off E
theorem RowR.bl {w w' : World} {b off : Nat} {L : List Rc} (h : RowR w b off L) (g : Bl w w') : RowR w' b off L := fun k r hk => by
  obtain ⟨h1, h2, h3, h4⟩ := h k r hk
  exact ⟨g.keep h1, g.keep h2, g.keep h3, g.keep h4⟩
theorem RowI.bl {w w' : World} {b off : Nat} {E : List Int} (h : RowI w b off E) (g : Bl w w') : RowI w' b off E := fun k r hk => g.keep (h k r hk)
theorem RowI.grown {w w' : World} {b off : Nat} {E : List Int} {row : Option Nat} (h : RowI w b off E) (g : w.grownBy w' row) (hne : some b ≠ row) : RowI w' b off E := fun k r hk => g.cell (h k r hk) hne
theorem RowR.grown {w w' : World} {b off : Nat} {L : List Rc} {row : Option Nat} (h : RowR w b off L) (g : w.grownBy w' row) (hne : some b ≠ row) : RowR w' b off L := fun k r hk => by
  obtain ⟨h1, h2, h3, h4⟩ := h k r hk
  exact ⟨g.cell h1 hne, g.cell h2 hne, g.cell h3 hne, g.cell h4 hne⟩
theorem Rs.bl {w w' : World} {A : Option Addr} {L : List Rc} (h : Rs w A L) (g : Bl w w') : Rs w' A L := by
  rcases h with h | ⟨b, off, h1, h2⟩
  · exact .inl h
  · exact .inr ⟨b, off, h1, h2.bl g⟩
theorem Is.bl {w w' : World} {A : Option Addr} {E : List Int} (h : Is w A E) (g : Bl w w') : Is w' A E := by
  rcases h with h | ⟨b, off, h1, h2⟩
  · exact .inl h
  · exact .inr ⟨b, off, h1, h2.bl g⟩
theorem Rs.opened {w : World} {A : Option Addr} {L : List Rc} (h : Rs w A L) (hn : 0 < L.length) : ∃ b off, A = some ⟨b, off, none⟩ ∧ RowR w b off L := by
  rcases h with h | h
  · subst h; simp at hn
  · exact h
theorem Is.opened {w : World} {A : Option Addr} {E : List Int} (h : Is w A E) (hn : 0 < E.length) : ∃ b off, A = some ⟨b, off, none⟩ ∧ RowI w b off E := by
  rcases h with h | h
  · subst h; simp at hn
  · exact h
theorem Is.grown {w w' : World} {A : Option Addr} {E : List Int} {row : Option Nat} (h : Is w A E) (g : w.grownBy w' row) (hne : ∀ k, A.map (·.block) = some k → some k ≠ row) : Is w' A E := by
  rcases h with h | ⟨b, off, h1, h2⟩
  · exact .inl h
  · exact .inr ⟨b, off, h1, h2.grown g (hne b (by rw [h1]; rfl))⟩
theorem Rs.nil (w : World) (A : Option Addr) : Rs w A [] := .inl rfl
theorem Is.nil (w : World) (A : Option Addr) : Is w A [] := .inl rfl
/-- Rows that a call owns: of rectangles, of ints. -/
def OwR (w : World) (B : Nat) (A : Option Addr) (c : Nat) (L : List Rc) : Prop := w.ownsRow B 31 4 (.slice A L.length c) L.length (cR L)
def OwI (w : World) (B : Nat) (A : Option Addr) (c : Nat) (E : List Int) : Prop := w.ownsRow B 3 1 (.slice A E.length c) E.length (cI E)
theorem OwR.nil (w : World) (B : Nat) : OwR w B none 0 [] := World.ownsRow_nil _ _ _ _
theorem OwI.nil (w : World) (B : Nat) : OwI w B none 0 [] := World.ownsRow_nil _ _ _ _
theorem OwR.addr {w : World} {B : Nat} {A : Option Addr} {c : Nat} {L : List Rc} (h : OwR w B A c L) : (A = none ∧ c = 0 ∧ L = []) ∨ ∃ g, A = some ⟨g, 0, none⟩ ∧ B ≤ g ∧ g < w.heap.size := by
  rcases h.2 with ⟨h1, h2⟩ | ⟨g, cap, cur, h1, h2, h3, _⟩
  · left
    injection h1 with a b c'
    exact ⟨a, c', List.eq_nil_of_length_eq_zero h2⟩
  · right
    injection h1 with a b c'
    refine ⟨g, a, h2, ?_⟩
    rcases Nat.lt_or_ge g w.heap.size with hl | hl
    · exact hl
    · rw [Array.getElem?_eq_none hl] at h3; cases h3
theorem OwI.addr {w : World} {B : Nat} {A : Option Addr} {c : Nat} {E : List Int} (h : OwI w B A c E) : (A = none ∧ c = 0 ∧ E = []) ∨ ∃ g, A = some ⟨g, 0, none⟩ ∧ B ≤ g ∧ g < w.heap.size := by
  rcases h.2 with ⟨h1, h2⟩ | ⟨g, cap, cur, h1, h2, h3, _⟩
  · left
    injection h1 with a b c'
    exact ⟨a, c', List.eq_nil_of_length_eq_zero h2⟩
  · right
    injection h1 with a b c'
    refine ⟨g, a, h2, ?_⟩
    rcases Nat.lt_or_ge g w.heap.size with hl | hl
    · exact hl
    · rw [Array.getElem?_eq_none hl] at h3; cases h3
theorem OwR.cap {w : World} {B : Nat} {A : Option Addr} {c : Nat} {L : List Rc} (h : OwR w B A c L) : L.length ≤ c := own_cap h rfl
theorem OwI.cap {w : World} {B : Nat} {A : Option Addr} {c : Nat} {E : List Int} (h : OwI w B A c E) : E.length ≤ c := own_cap h rfl
theorem OwR.row {w : World} {B : Nat} {g c : Nat} {L : List Rc} (h : OwR w B (some ⟨g, 0, none⟩) c L) : RowR w g 0 L := fun k r hk => by
  have hl : k < L.length := by
    rcases Nat.lt_or_ge k L.length with h' | h'
    · exact h'
    · rw [List.getElem?_eq_none h'] at hk; cases hk
  have q := fun j (hj : j < 4) => (World.ownsRow.cellAt h (k * 4 + j) (by omega)).trans (cR_get L k r j hk hj)
  refine ⟨?_, ?_, ?_, ?_⟩
  · simpa [c4] using q 0 (by omega)
  · simpa [c4] using q 1 (by omega)
  · simpa [c4] using q 2 (by omega)
  · simpa [c4] using q 3 (by omega)
theorem OwI.row {w : World} {B : Nat} {g c : Nat} {E : List Int} (h : OwI w B (some ⟨g, 0, none⟩) c E) : RowI w g 0 E := fun k x hk => by
  have hl : k < E.length := by
    rcases Nat.lt_or_ge k E.length with h' | h'
    · exact h'
    · rw [List.getElem?_eq_none h'] at hk; cases hk
  have q := World.ownsRow.cellAt h k (by omega)
  rw [Nat.zero_add, q]
  simp [cI, hk]
theorem OwR.rs {w : World} {B : Nat} {A : Option Addr} {c : Nat} {L : List Rc} (h : OwR w B A c L) : Rs w A L := by
  rcases h.addr with ⟨_, _, h'⟩ | ⟨g, rfl, _⟩
  · exact .inl h'
  · exact .inr ⟨g, 0, rfl, h.row⟩
theorem OwI.is {w : World} {B : Nat} {A : Option Addr} {c : Nat} {E : List Int} (h : OwI w B A c E) : Is w A E := by
  rcases h.addr with ⟨_, _, h'⟩ | ⟨g, rfl, _⟩
  · exact .inl h'
  · exact .inr ⟨g, 0, rfl, h.row⟩
theorem OwR.grown {w w' : World} {B : Nat} {A : Option Addr} {c : Nat} {L : List Rc} {row : Option Nat} (h : OwR w B A c L) (g : w.grownBy w' row) (hne : A = none ∨ A.map (·.block) ≠ row) : OwR w' B A c L :=
  World.ownsRow.kept h g (by rw [slice_block]; rcases hne with rfl | hne; exact .inl rfl; exact .inr hne)
theorem OwI.grown {w w' : World} {B : Nat} {A : Option Addr} {c : Nat} {E : List Int} {row : Option Nat} (h : OwI w B A c E) (g : w.grownBy w' row) (hne : A = none ∨ A.map (·.block) ≠ row) : OwI w' B A c E :=
  World.ownsRow.kept h g (by rw [slice_block]; rcases hne with rfl | hne; exact .inl rfl; exact .inr hne)
theorem OwR.bl {w w' : World} {B : Nat} {A : Option Addr} {c : Nat} {L : List Rc} (h : OwR w B A c L) (g : Bl w w') : OwR w' B A c L :=
  h.grown g.by (by cases A with | none => exact .inl rfl | some a => exact .inr (by simp))
theorem OwI.bl {w w' : World} {B : Nat} {A : Option Addr} {c : Nat} {E : List Int} (h : OwI w B A c E) (g : Bl w w') : OwI w' B A c E :=
  h.grown g.by (by cases A with | none => exact .inl rfl | some a => exact .inr (by simp))

/-- What append leaves: the row, where it lies, and what else has turned. -/
def Apd (w w' : World) (A A' : Option Addr) : Prop := w.grownBy w' (A.map (·.block)) ∧ ((A.map (·.block)) = A'.map (·.block) ∨ A'.map (·.block) = some w.heap.size)
theorem Apd.bl {w0 w w' : World} {A A' : Option Addr} {B : Nat} (g : Apd w w' A A') (h : Bl w0 w) (hA : A = none ∨ ∃ k, A = some ⟨k, 0, none⟩ ∧ B ≤ k ∧ k < w.heap.size) (hB : w0.heap.size ≤ B) : Bl w0 w' :=
  h.grown g.1 (fun k hk => by
    rcases hA with rfl | ⟨k', rfl, h1, _⟩
    · cases hk
    · simp at hk; omega)
theorem OwR.lies {w : World} {B : Nat} {A : Option Addr} {c : Nat} {L : List Rc} (h : OwR w B A c L) : A = none ∨ ∃ k, A = some ⟨k, 0, none⟩ ∧ B ≤ k ∧ k < w.heap.size := by
  rcases h.addr with ⟨h1, _⟩ | h1
  · exact .inl h1
  · exact .inr h1
theorem OwI.lies {w : World} {B : Nat} {A : Option Addr} {c : Nat} {E : List Int} (h : OwI w B A c E) : A = none ∨ ∃ k, A = some ⟨k, 0, none⟩ ∧ B ≤ k ∧ k < w.heap.size := by
  rcases h.addr with ⟨h1, _⟩ | h1
  · exact .inl h1
  · exact .inr h1

theorem infoR : (Tryz.prog.info? 31).map (fun i => (i.zero, i.size, i.bytes)) = some (some (.agg #[.int .i64 0, .int .i64 0, .int .i64 0, .int .i64 0]), 4, 32) := by kernel_rfl
theorem infoI : (Tryz.prog.info? 3).map (fun i => (i.zero, i.size, i.bytes)) = some (some (.int .i64 0), 1, 8) := by kernel_rfl

end Go.Proofs.YtablogiielclaaaGreat
