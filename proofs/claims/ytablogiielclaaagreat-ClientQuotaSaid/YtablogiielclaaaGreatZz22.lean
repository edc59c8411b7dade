/-
  What is proved: what standAlike of package surface hands back. No conditions.
-/
import Derived.Test.YtablogiielclaaaGreatZz21
import Derived.Deep.RegionHeld3
import Derived.BigQuiet
import Derived.Deep.QuietTactic
import Derived.Shelf.SlSortCmp.QuietGrown
namespace Go.Proofs.YtablogiielclaaaGreat
open Go.RowKit Go.Sort Go.Deep

theorem eqNil (w : World) : (Op.equalIn 9999 58 (.pointer none) (.pointer none)).run Tryz.prog w = .ok true w := by kernel_rfl
theorem step_store_row {ops : Array Oper} {o : Oper} {a : Act} {w : World} {K : Act → World → Prop} {Q : Exit → Act → World → Prop} {E : Prop} (hgd : o.guard = none) (ty : TypeId) (x y : Operand) (ho : o.op = .store ty x y)
    (g : Nat) (cells : Array Value) (hx : a.eval x = .pointer (some ⟨g, 0, none⟩)) (hy : a.eval y = .agg cells) (t : TypeId) (old : Array Value) (hg : At w g old t) (hi : (Tryz.prog.info? ty).map (·.size) = some cells.size)
    (hold : old.size = cells.size) (h1 : cells.all (·.oneCell') = true) (h : K (a.put o.dst undef) (w.setRow g cells)) : if Region.wanted o (yielded ops a.tmps) = true then Oper.wp Tryz.prog o a w K Q else E := by
  rw [if_pos (by simp [Region.wanted, hgd])]
  exact wp_store_row ty x y ho g cells hx hy t old hg hi hold h1 h
set_option maxRecDepth 100000 in
set_option maxHeartbeats 2000000 in
theorem sfalikeA (px : Option Addr) (ax1 ay1 s1 al1 p1 q1 r1 t1 : Int) (A1 : Option Addr) (n1 c1 : Nat) (ti1 : Value) (ax2 ay2 s2 al2 p2 q2 r2 t2 : Int) (A2 : Option Addr) (n2 c2 : Nat) (ti2 : Value) (w : World) :
    Calls Tryz.prog 145 #[.agg #[.pointer none, .int .i64 ax1, .int .i64 ay1, .int .i64 s1, .int .i64 al1, .int .i64 p1, .int .i64 q1, .int .i64 r1, .int .i64 t1, .slice A1 n1 c1, ti1], .agg #[.pointer px, .int .i64 ax2, .int .i64 ay2, .int .i64 s2, .int .i64 al2, .int .i64 p2, .int .i64 q2, .int .i64 r2, .int .i64 t2, .slice A2 n2 c2, ti2]] w (RZ w (.bool false)) := by
  have G0 := ((Bl.refl w).alloc (.cells #[.pointer none, .int .i64 ax1, .int .i64 ay1, .int .i64 s1, .int .i64 al1, .int .i64 p1, .int .i64 q1, .int .i64 r1, .int .i64 t1, .slice A1 n1 c1, ti1] 60)).alloc (.cells #[.pointer px, .int .i64 ax2, .int .i64 ay2, .int .i64 s2, .int .i64 al2, .int .i64 p2, .int .i64 q2, .int .i64 r2, .int .i64 t2, .slice A2 n2 c2, ti2] 60)
  have SA := (At.new w #[.pointer none, .int .i64 ax1, .int .i64 ay1, .int .i64 s1, .int .i64 al1, .int .i64 p1, .int .i64 q1, .int .i64 r1, .int .i64 t1, .slice A1 n1 c1, ti1] 60).alloc (.cells #[.pointer px, .int .i64 ax2, .int .i64 ay2, .int .i64 s2, .int .i64 al2, .int .i64 p2, .int .i64 q2, .int .i64 r2, .int .i64 t2, .slice A2 n2 c2, ti2] 60)
  have SB := At.newAt (w := w.alloc (.cells #[.pointer none, .int .i64 ax1, .int .i64 ay1, .int .i64 s1, .int .i64 al1, .int .i64 p1, .int .i64 q1, .int .i64 r1, .int .i64 t1, .slice A1 n1 c1, ti1] 60)) (n := w.heap.size + 1) (by simp) #[.pointer px, .int .i64 ax2, .int .i64 ay2, .int .i64 s2, .int .i64 al2, .int .i64 p2, .int .i64 q2, .int .i64 r2, .int .i64 t2, .slice A2 n2 c2, ti2] 60
  go_enter Tryz.func145, Tryz.ntmps145
  go_upto_region 1 with fail
  obtain ⟨W0, hW⟩ : ∃ W0, W0 = (w.alloc (.cells #[.pointer none, .int .i64 ax1, .int .i64 ay1, .int .i64 s1, .int .i64 al1, .int .i64 p1, .int .i64 q1, .int .i64 r1, .int .i64 t1, .slice A1 n1 c1, ti1] 60)).alloc (.cells #[.pointer px, .int .i64 ax2, .int .i64 ay2, .int .i64 s2, .int .i64 al2, .int .i64 p2, .int .i64 q2, .int .i64 r2, .int .i64 t2, .slice A2 n2 c2, ti2] 60) := ⟨_, rfl⟩
  rw [← hW] at SA SB G0 ⊢
  clear hW
  have Xa0 : ∀ (d : Nat) (os : Array Obj), (grow (W0.drewN d) os).cell? ⟨w.heap.size, 0, none⟩ = some (.pointer none) := fun d os => ((SA.drewN d).grow os).cell 0
  have Xb0 : ∀ (d : Nat) (os : Array Obj), (grow (W0.drewN d) os).cell? ⟨w.heap.size + 1, 0, none⟩ = some (.pointer px) := fun d os => ((SB.drewN d).grow os).cell 0
  refine wp_region_quiet_grown (by kernel_rfl) (by kernel_rfl) ?_
  repeat (first | go_big_quiet_step (fail) | quiet_step (fail))
  refine wpQuiet_nil ?_
  intro W2 g8
  replace g8 : Gr _ W2 := g8
  go_wp2
  go_ret
  exact ⟨rfl, G0.trans g8.bl⟩

set_option maxRecDepth 100000 in
set_option maxHeartbeats 2000000 in
theorem sfalikeB (m1 : Nat) (ax1 ay1 s1 al1 p1 q1 r1 t1 : Int) (A1 : Option Addr) (n1 c1 : Nat) (ti1 : Value) (ax2 ay2 s2 al2 p2 q2 r2 t2 : Int) (A2 : Option Addr) (n2 c2 : Nat) (ti2 : Value) (w : World) :
    Calls Tryz.prog 145 #[.agg #[.pointer (some ⟨m1, 0, none⟩), .int .i64 ax1, .int .i64 ay1, .int .i64 s1, .int .i64 al1, .int .i64 p1, .int .i64 q1, .int .i64 r1, .int .i64 t1, .slice A1 n1 c1, ti1], .agg #[.pointer none, .int .i64 ax2, .int .i64 ay2, .int .i64 s2, .int .i64 al2, .int .i64 p2, .int .i64 q2, .int .i64 r2, .int .i64 t2, .slice A2 n2 c2, ti2]] w (RZ w (.bool false)) := by
  have G0 := ((Bl.refl w).alloc (.cells #[.pointer (some ⟨m1, 0, none⟩), .int .i64 ax1, .int .i64 ay1, .int .i64 s1, .int .i64 al1, .int .i64 p1, .int .i64 q1, .int .i64 r1, .int .i64 t1, .slice A1 n1 c1, ti1] 60)).alloc (.cells #[.pointer none, .int .i64 ax2, .int .i64 ay2, .int .i64 s2, .int .i64 al2, .int .i64 p2, .int .i64 q2, .int .i64 r2, .int .i64 t2, .slice A2 n2 c2, ti2] 60)
  have SA := (At.new w #[.pointer (some ⟨m1, 0, none⟩), .int .i64 ax1, .int .i64 ay1, .int .i64 s1, .int .i64 al1, .int .i64 p1, .int .i64 q1, .int .i64 r1, .int .i64 t1, .slice A1 n1 c1, ti1] 60).alloc (.cells #[.pointer none, .int .i64 ax2, .int .i64 ay2, .int .i64 s2, .int .i64 al2, .int .i64 p2, .int .i64 q2, .int .i64 r2, .int .i64 t2, .slice A2 n2 c2, ti2] 60)
  have SB := At.newAt (w := w.alloc (.cells #[.pointer (some ⟨m1, 0, none⟩), .int .i64 ax1, .int .i64 ay1, .int .i64 s1, .int .i64 al1, .int .i64 p1, .int .i64 q1, .int .i64 r1, .int .i64 t1, .slice A1 n1 c1, ti1] 60)) (n := w.heap.size + 1) (by simp) #[.pointer none, .int .i64 ax2, .int .i64 ay2, .int .i64 s2, .int .i64 al2, .int .i64 p2, .int .i64 q2, .int .i64 r2, .int .i64 t2, .slice A2 n2 c2, ti2] 60
  go_enter Tryz.func145, Tryz.ntmps145
  go_upto_region 1 with fail
  obtain ⟨W0, hW⟩ : ∃ W0, W0 = (w.alloc (.cells #[.pointer (some ⟨m1, 0, none⟩), .int .i64 ax1, .int .i64 ay1, .int .i64 s1, .int .i64 al1, .int .i64 p1, .int .i64 q1, .int .i64 r1, .int .i64 t1, .slice A1 n1 c1, ti1] 60)).alloc (.cells #[.pointer none, .int .i64 ax2, .int .i64 ay2, .int .i64 s2, .int .i64 al2, .int .i64 p2, .int .i64 q2, .int .i64 r2, .int .i64 t2, .slice A2 n2 c2, ti2] 60) := ⟨_, rfl⟩
  rw [← hW] at SA SB G0 ⊢
  clear hW
  have Xa0 : ∀ (d : Nat) (os : Array Obj), (grow (W0.drewN d) os).cell? ⟨w.heap.size, 0, none⟩ = some (.pointer (some ⟨m1, 0, none⟩)) := fun d os => ((SA.drewN d).grow os).cell 0
  have Xb0 : ∀ (d : Nat) (os : Array Obj), (grow (W0.drewN d) os).cell? ⟨w.heap.size + 1, 0, none⟩ = some (.pointer none) := fun d os => ((SB.drewN d).grow os).cell 0
  refine wp_region_quiet_grown (by kernel_rfl) (by kernel_rfl) ?_
  repeat (first | go_big_quiet_step (fail) | quiet_step (fail))
  refine wpQuiet_nil ?_
  intro W2 g8
  replace g8 : Gr _ W2 := g8
  go_wp2
  go_ret
  exact ⟨rfl, G0.trans g8.bl⟩

set_option maxRecDepth 100000 in
set_option maxHeartbeats 40000000 in
theorem sfalikeC {m1 o1 W1 H1 m2 o2 W2 H2 : Nat} {F1 F2 : List Int} {Sp1 Sp2 : List Value} (ax1 ay1 s1 al1 p1 q1 r1 t1 : Int) (A1 : Option Addr) (n1 c1 : Nat) (ti1 : Value) (ax2 ay2 s2 al2 p2 q2 r2 t2 : Int) (A2 : Option Addr) (n2 c2 : Nat) (ti2 : Value) (w : World) (hI1 : ImgX w m1 o1 W1 H1 F1 Sp1) (hI2 : ImgX w m2 o2 W2 H2 F2 Sp2) :
    Calls Tryz.prog 145 #[.agg #[.pointer (some ⟨m1, 0, none⟩), .int .i64 ax1, .int .i64 ay1, .int .i64 s1, .int .i64 al1, .int .i64 p1, .int .i64 q1, .int .i64 r1, .int .i64 t1, .slice A1 n1 c1, ti1], .agg #[.pointer (some ⟨m2, 0, none⟩), .int .i64 ax2, .int .i64 ay2, .int .i64 s2, .int .i64 al2, .int .i64 p2, .int .i64 q2, .int .i64 r2, .int .i64 t2, .slice A2 n2 c2, ti2]] w (RZ w (.bool (decide (W1 = W2 ∧ H1 = H2) && decide (ax1 = ax2 ∧ ay1 = ay2 ∧ s1 = s2 ∧ al1 = al2 ∧ p1 = p2 ∧ q1 = q2 ∧ r1 = r2 ∧ t1 = t2)))) := by
  obtain ⟨rv, hrv⟩ : ∃ rv, rv = (decide (W1 = W2 ∧ H1 = H2) && decide (ax1 = ax2 ∧ ay1 = ay2 ∧ s1 = s2 ∧ al1 = al2 ∧ p1 = p2 ∧ q1 = q2 ∧ r1 = r2 ∧ t1 = t2)) := ⟨_, rfl⟩
  rw [← hrv]
  replace hrv := Lib.hid hrv
  have G0 := ((Bl.refl w).alloc (.cells #[.pointer (some ⟨m1, 0, none⟩), .int .i64 ax1, .int .i64 ay1, .int .i64 s1, .int .i64 al1, .int .i64 p1, .int .i64 q1, .int .i64 r1, .int .i64 t1, .slice A1 n1 c1, ti1] 60)).alloc (.cells #[.pointer (some ⟨m2, 0, none⟩), .int .i64 ax2, .int .i64 ay2, .int .i64 s2, .int .i64 al2, .int .i64 p2, .int .i64 q2, .int .i64 r2, .int .i64 t2, .slice A2 n2 c2, ti2] 60)
  have SA := (At.new w #[.pointer (some ⟨m1, 0, none⟩), .int .i64 ax1, .int .i64 ay1, .int .i64 s1, .int .i64 al1, .int .i64 p1, .int .i64 q1, .int .i64 r1, .int .i64 t1, .slice A1 n1 c1, ti1] 60).alloc (.cells #[.pointer (some ⟨m2, 0, none⟩), .int .i64 ax2, .int .i64 ay2, .int .i64 s2, .int .i64 al2, .int .i64 p2, .int .i64 q2, .int .i64 r2, .int .i64 t2, .slice A2 n2 c2, ti2] 60)
  have SB := At.newAt (w := w.alloc (.cells #[.pointer (some ⟨m1, 0, none⟩), .int .i64 ax1, .int .i64 ay1, .int .i64 s1, .int .i64 al1, .int .i64 p1, .int .i64 q1, .int .i64 r1, .int .i64 t1, .slice A1 n1 c1, ti1] 60)) (n := w.heap.size + 1) (by simp) #[.pointer (some ⟨m2, 0, none⟩), .int .i64 ax2, .int .i64 ay2, .int .i64 s2, .int .i64 al2, .int .i64 p2, .int .i64 q2, .int .i64 r2, .int .i64 t2, .slice A2 n2 c2, ti2] 60
  go_enter Tryz.func145, Tryz.ntmps145
  go_upto_region 1 with fail
  obtain ⟨W0, hW⟩ : ∃ W0, W0 = (w.alloc (.cells #[.pointer (some ⟨m1, 0, none⟩), .int .i64 ax1, .int .i64 ay1, .int .i64 s1, .int .i64 al1, .int .i64 p1, .int .i64 q1, .int .i64 r1, .int .i64 t1, .slice A1 n1 c1, ti1] 60)).alloc (.cells #[.pointer (some ⟨m2, 0, none⟩), .int .i64 ax2, .int .i64 ay2, .int .i64 s2, .int .i64 al2, .int .i64 p2, .int .i64 q2, .int .i64 r2, .int .i64 t2, .slice A2 n2 c2, ti2] 60) := ⟨_, rfl⟩
  rw [← hW] at SA SB G0 ⊢
  clear hW
  have Xa0 : ∀ (d : Nat) (os : Array Obj), (grow (W0.drewN d) os).cell? ⟨w.heap.size, 0, none⟩ = some (.pointer (some ⟨m1, 0, none⟩)) := fun d os => ((SA.drewN d).grow os).cell 0
  have Xb0 : ∀ (d : Nat) (os : Array Obj), (grow (W0.drewN d) os).cell? ⟨w.heap.size + 1, 0, none⟩ = some (.pointer (some ⟨m2, 0, none⟩)) := fun d os => ((SB.drewN d).grow os).cell 0
  replace hI1 := hI1.bl G0
  replace hI2 := hI2.bl G0
  have hn : (¬ (W1 : Int) = (W2 : Int)) ∨ (W1 = W2 ∧ ¬ (H1 : Int) = (H2 : Int)) ∨ (W1 = W2 ∧ H1 = H2) := by omega
  have hf := Lib.hid (fun (h : ¬ (W1 = W2 ∧ H1 = H2)) => (show rv = false from by rw [hrv.out, decide_eq_false h]; rfl))
  rcases hn with hn | ⟨rfl, hn⟩ | ⟨rfl, rfl⟩
  case inr.inr =>
    refine wp_region_quiet_grown (by kernel_rfl) (by kernel_rfl) ?_
    repeat (first | go_big_quiet_step ((go_at_call 100; first | exact Calls.grown (boxX _ (hI1.cellsG _ _)) | exact Calls.grown (boxX _ (hI2.cellsG _ _)))) | quiet_step ((go_at_call 100; first | exact Calls.grown (boxX _ (hI1.cellsG _ _)) | exact Calls.grown (boxX _ (hI2.cellsG _ _)))))
    refine wpQuiet_nil ?_
    intro V2 g8
    replace g8 : Gr _ V2 := g8
    have hg := G0.trans g8.bl
    replace SA := SA.gr g8
    replace SB := SB.gr g8
    have cL1 := Lib.hid (fun V => sflayer1 (some ⟨m1, 0, none⟩) ax1 ay1 s1 al1 p1 q1 r1 t1 A1 n1 c1 ti1 V)
    have cL2 := Lib.hid (fun V => sflayer1 (some ⟨m2, 0, none⟩) ax2 ay2 s2 al2 p2 q2 r2 t2 A2 n2 c2 ti2 V)
    clear hI1 hI2 g8 Xa0 Xb0 G0
    go_upto_region 3 with fail
    have SK := Lib.hid (fun (V : World) (g : Bl V2 V) => (show At V w.heap.size #[.pointer (some ⟨m1, 0, none⟩), .int .i64 ax1, .int .i64 ay1, .int .i64 s1, .int .i64 al1, .int .i64 p1, .int .i64 q1, .int .i64 r1, .int .i64 t1, .slice A1 n1 c1, ti1] 60 ∧ At V (w.heap.size + 1) #[.pointer (some ⟨m2, 0, none⟩), .int .i64 ax2, .int .i64 ay2, .int .i64 s2, .int .i64 al2, .int .i64 p2, .int .i64 q2, .int .i64 r2, .int .i64 t2, .slice A2 n2 c2, ti2] 60 ∧ Bl V2 V from ⟨SA.bl g, SB.bl g, g⟩))
    refine wp_region_held_drew (S := fun V => At V w.heap.size #[.pointer (some ⟨m1, 0, none⟩), .int .i64 ax1, .int .i64 ay1, .int .i64 s1, .int .i64 al1, .int .i64 p1, .int .i64 q1, .int .i64 r1, .int .i64 t1, .slice A1 n1 c1, ti1] 60 ∧ At V (w.heap.size + 1) #[.pointer (some ⟨m2, 0, none⟩), .int .i64 ax2, .int .i64 ay2, .int .i64 s2, .int .i64 al2, .int .i64 p2, .int .i64 q2, .int .i64 r2, .int .i64 t2, .slice A2 n2 c2, ti2] 60 ∧ Bl V2 V) (by kernel_rfl) (SK.out _ (Bl.refl _).drew) (fun hHeld => ?_)
    have B0 : Bl V2 V2.drew := (Bl.refl _).drew
    generalize V2.drew = U0 at *
    refine wpAnyH_take (i := 0) (v := .agg #[.pointer (some ⟨m1, 0, none⟩), .int .i64 ax1, .int .i64 ay1, .int .i64 s1, .int .i64 al1, .int .i64 p1, .int .i64 q1, .int .i64 r1, .int .i64 t1, .slice A1 n1 c1, ti1]) rfl (by kernel_rfl) (by kernel_rfl) (by kernel_rfl) (fun _ _ _ h => h) (yieldsIf_load_mid (by rfl) 60 _ rfl (w.heap.size) 0 rfl [.pointer (some ⟨m1, 0, none⟩), .int .i64 ax1, .int .i64 ay1, .int .i64 s1, .int .i64 al1, .int .i64 p1, .int .i64 q1, .int .i64 r1, .int .i64 t1, .slice A1 n1 c1, ti1] _ (fun V hS => At.range (cs := [.pointer (some ⟨m1, 0, none⟩), .int .i64 ax1, .int .i64 ay1, .int .i64 s1, .int .i64 al1, .int .i64 p1, .int .i64 q1, .int .i64 r1, .int .i64 t1, .slice A1 n1 c1, ti1]) hS.1 0 _ (fun j v hj => by rw [Nat.zero_add]; exact hj)) Tryz.underlying60 rfl (by kernel_rfl)) (by assumption) ?_
    try simp only [Act.put, List.setIfInBounds_toArray, List.set_cons_zero, List.set_cons_succ, List.getElem_toArray, List.getElem_cons_zero]
    refine wpAnyH_take (i := 2) (v := .agg #[.pointer (some ⟨m2, 0, none⟩), .int .i64 ax2, .int .i64 ay2, .int .i64 s2, .int .i64 al2, .int .i64 p2, .int .i64 q2, .int .i64 r2, .int .i64 t2, .slice A2 n2 c2, ti2]) rfl (by kernel_rfl) (by kernel_rfl) (by kernel_rfl) (fun _ _ _ h => h) (yieldsIf_load_mid (by rfl) 60 _ rfl (w.heap.size + 1) 0 rfl [.pointer (some ⟨m2, 0, none⟩), .int .i64 ax2, .int .i64 ay2, .int .i64 s2, .int .i64 al2, .int .i64 p2, .int .i64 q2, .int .i64 r2, .int .i64 t2, .slice A2 n2 c2, ti2] _ (fun V hS => At.range (cs := [.pointer (some ⟨m2, 0, none⟩), .int .i64 ax2, .int .i64 ay2, .int .i64 s2, .int .i64 al2, .int .i64 p2, .int .i64 q2, .int .i64 r2, .int .i64 t2, .slice A2 n2 c2, ti2]) hS.2.1 0 _ (fun j v hj => by rw [Nat.zero_add]; exact hj)) Tryz.underlying60 rfl (by kernel_rfl)) (by assumption) ?_
    try simp only [Act.put, List.setIfInBounds_toArray, List.set_cons_zero, List.set_cons_succ, List.getElem_toArray, List.getElem_cons_succ, List.getElem_cons_zero]
    refine wpAnyH_ready (rs := [1, 4, 5]) (by kernel_rfl) (by simp) (AllReadyH.cons rfl (fun K9 hK9 => ?_) (AllReadyH.cons rfl (fun K9 hK9 => ?_) (AllReadyH.cons rfl (fun K9 hK9 => ?_) AllReadyH.nil)))
    · go_simp
      refine (cL1.out _).mono ?_
      rintro e U1 ⟨rfl, g2⟩
      have B3 : Bl V2 U1 := Bl.gr B0 g2
      refine hK9.out _ _ (SK.out _ B3) (fun _ => ?_)
      clear hK9 K9
      try simp only [Act.put, List.setIfInBounds_toArray, List.set_cons_zero, List.set_cons_succ, List.getElem_toArray, List.getElem_cons_succ, List.getElem_cons_zero]
      refine wpAnyH_ready (rs := [3, 4, 5]) (by kernel_rfl) (by simp) (AllReadyH.cons rfl (fun K9 hK9 => ?_) (AllReadyH.cons rfl (fun K9 hK9 => ?_) (AllReadyH.cons rfl (fun K9 hK9 => ?_) AllReadyH.nil)))
      · go_simp
        refine (cL2.out _).mono ?_
        rintro e U4 ⟨rfl, g5⟩
        have B6 : Bl V2 U4 := Bl.gr B3 g5
        refine hK9.out _ _ (SK.out _ B6) (fun _ => ?_)
        clear hK9 K9
        try simp only [Act.put, List.setIfInBounds_toArray, List.set_cons_zero, List.set_cons_succ, List.getElem_toArray, List.getElem_cons_succ, List.getElem_cons_zero]
        refine wpAnyH_ready (rs := [4, 5]) (by kernel_rfl) (by simp) (AllReadyH.cons rfl (fun K9 hK9 => ?_) (AllReadyH.cons rfl (fun K9 hK9 => ?_) AllReadyH.nil))
        · go_simp
          have B8 : Bl V2 _ := Bl.alloc B6 (.cells #[.pointer none, .int .i64 0, .int .i64 0, .int .i64 0, .int .i64 0, .int .i64 0, .int .i64 0, .int .i64 0, .int .i64 0] 65)
          have Y10 := At.new U4 #[.pointer none, .int .i64 0, .int .i64 0, .int .i64 0, .int .i64 0, .int .i64 0, .int .i64 0, .int .i64 0, .int .i64 0] 65
          have hs5 : V2.heap.size ≤ U4.heap.size := Bl.size B6
          generalize U4.alloc (.cells #[.pointer none, .int .i64 0, .int .i64 0, .int .i64 0, .int .i64 0, .int .i64 0, .int .i64 0, .int .i64 0, .int .i64 0] 65) = U7 at *
          generalize U4.heap.size = b9 at *
          refine hK9.out _ _ (SK.out _ B8) (fun _ => ?_)
          clear hK9 K9
          try simp only [Act.put, List.setIfInBounds_toArray, List.set_cons_zero, List.set_cons_succ, List.getElem_toArray, List.getElem_cons_succ, List.getElem_cons_zero]
          refine wpAnyH_ready (rs := [5]) (by kernel_rfl) (by simp) (AllReadyH.cons rfl (fun K9 hK9 => ?_) AllReadyH.nil)
          go_simp
          have B12 : Bl V2 _ := Bl.alloc B8 (.cells #[.pointer none, .int .i64 0, .int .i64 0, .int .i64 0, .int .i64 0, .int .i64 0, .int .i64 0, .int .i64 0, .int .i64 0] 65)
          have Y14 := Y10.alloc (.cells #[.pointer none, .int .i64 0, .int .i64 0, .int .i64 0, .int .i64 0, .int .i64 0, .int .i64 0, .int .i64 0, .int .i64 0] 65)
          have Y15 := At.new U7 #[.pointer none, .int .i64 0, .int .i64 0, .int .i64 0, .int .i64 0, .int .i64 0, .int .i64 0, .int .i64 0, .int .i64 0] 65
          have n16 : b9 ≠ U7.heap.size := Nat.ne_of_lt Y10.lt
          have hs6 : V2.heap.size ≤ U7.heap.size := Bl.size B8
          generalize U7.alloc (.cells #[.pointer none, .int .i64 0, .int .i64 0, .int .i64 0, .int .i64 0, .int .i64 0, .int .i64 0, .int .i64 0, .int .i64 0] 65) = U11 at *
          generalize U7.heap.size = b13 at *
          refine hK9.out _ _ (SK.out _ B12) (fun _ => ?_)
          clear hK9 K9
          try simp only [Act.put, List.setIfInBounds_toArray, List.set_cons_zero, List.set_cons_succ, List.getElem_toArray, List.getElem_cons_succ, List.getElem_cons_zero]
          refine wpAnyH_ready (rs := [6]) (by kernel_rfl) (by simp) (AllReadyH.cons rfl (fun K9 hK9 => ?_) AllReadyH.nil)
          refine step_store_row rfl 65 _ _ rfl b9 #[.pointer (some ⟨m1, 0, none⟩), .int .i64 ax1, .int .i64 ay1, .int .i64 s1, .int .i64 al1, .int .i64 p1, .int .i64 q1, .int .i64 r1, .int .i64 t1] rfl rfl _ _ Y14 (by kernel_rfl) rfl (by simp [Value.oneCell']) ?_
          have B18 : Bl V2 _ := Bl.srow B12 hs5 #[.pointer (some ⟨m1, 0, none⟩), .int .i64 ax1, .int .i64 ay1, .int .i64 s1, .int .i64 al1, .int .i64 p1, .int .i64 q1, .int .i64 r1, .int .i64 t1]
          have Y19 := Y14.setRow #[.pointer (some ⟨m1, 0, none⟩), .int .i64 ax1, .int .i64 ay1, .int .i64 s1, .int .i64 al1, .int .i64 p1, .int .i64 q1, .int .i64 r1, .int .i64 t1]
          have Y20 := Y15.kept (setRow_by _ b9 #[.pointer (some ⟨m1, 0, none⟩), .int .i64 ax1, .int .i64 ay1, .int .i64 s1, .int .i64 al1, .int .i64 p1, .int .i64 q1, .int .i64 r1, .int .i64 t1]) (by simpa using (Ne.symm n16))
          generalize U11.setRow b9 #[.pointer (some ⟨m1, 0, none⟩), .int .i64 ax1, .int .i64 ay1, .int .i64 s1, .int .i64 al1, .int .i64 p1, .int .i64 q1, .int .i64 r1, .int .i64 t1] = U17 at *
          refine hK9.out _ _ (SK.out _ B18) (fun _ => ?_)
          clear hK9 K9
          try simp only [Act.put, List.getElem_toArray, List.getElem_cons_succ, List.getElem_cons_zero]
          refine wpAnyH_ready (rs := [7]) (by kernel_rfl) (by simp) (AllReadyH.cons rfl (fun K9 hK9 => ?_) AllReadyH.nil)
          refine step_store_row rfl 65 _ _ rfl b13 #[.pointer (some ⟨m2, 0, none⟩), .int .i64 ax2, .int .i64 ay2, .int .i64 s2, .int .i64 al2, .int .i64 p2, .int .i64 q2, .int .i64 r2, .int .i64 t2] rfl rfl _ _ Y20 (by kernel_rfl) rfl (by simp [Value.oneCell']) ?_
          have B22 : Bl V2 _ := Bl.srow B18 hs6 #[.pointer (some ⟨m2, 0, none⟩), .int .i64 ax2, .int .i64 ay2, .int .i64 s2, .int .i64 al2, .int .i64 p2, .int .i64 q2, .int .i64 r2, .int .i64 t2]
          have Y23 := Y19.kept (setRow_by _ b13 #[.pointer (some ⟨m2, 0, none⟩), .int .i64 ax2, .int .i64 ay2, .int .i64 s2, .int .i64 al2, .int .i64 p2, .int .i64 q2, .int .i64 r2, .int .i64 t2]) (by simpa using n16)
          have Y24 := Y20.setRow #[.pointer (some ⟨m2, 0, none⟩), .int .i64 ax2, .int .i64 ay2, .int .i64 s2, .int .i64 al2, .int .i64 p2, .int .i64 q2, .int .i64 r2, .int .i64 t2]
          generalize U17.setRow b13 #[.pointer (some ⟨m2, 0, none⟩), .int .i64 ax2, .int .i64 ay2, .int .i64 s2, .int .i64 al2, .int .i64 p2, .int .i64 q2, .int .i64 r2, .int .i64 t2] = U21 at *
          refine hK9.out _ _ (SK.out _ B22) (fun _ => ?_)
          clear hK9 K9
          try simp only [Act.put, List.getElem_toArray, List.getElem_cons_succ, List.getElem_cons_zero]
          refine wpAnyH_done (by kernel_rfl) ?_ _
          have x0 := Y23.cell 0; have x1 := Y23.cell 1; have x2 := Y23.cell 2; have x3 := Y23.cell 3; have x4 := Y23.cell 4; have x5 := Y23.cell 5; have x6 := Y23.cell 6; have x7 := Y23.cell 7; have x8 := Y23.cell 8; have xf := Y23.free 0
          have z0 := Y24.cell 0; have z1 := Y24.cell 1; have z2 := Y24.cell 2; have z3 := Y24.cell 3; have z4 := Y24.cell 4; have z5 := Y24.cell 5; have z6 := Y24.cell 6; have z7 := Y24.cell 7; have z8 := Y24.cell 8; have zf := Y24.free 0
          clear SK cL1 cL2
          have eP := eqNil
          have hne56 := n16
          have hne65 := Ne.symm hne56
          go_wp2
          all_goals
            go_ret
            refine ⟨?_, hg.trans ((Bl.st1 (p := ⟨b13, 0, none⟩) (Bl.st1 (p := ⟨b9, 0, none⟩) B22 hs5 _) hs6 _))⟩
            show Ending.returned (Value.bool _) = _
            rw [hrv.out]
            congr 2
            simp [*]
        · go_simp
          have B8 : Bl V2 _ := Bl.alloc B6 (.cells #[.pointer none, .int .i64 0, .int .i64 0, .int .i64 0, .int .i64 0, .int .i64 0, .int .i64 0, .int .i64 0, .int .i64 0] 65)
          have Y10 := At.new U4 #[.pointer none, .int .i64 0, .int .i64 0, .int .i64 0, .int .i64 0, .int .i64 0, .int .i64 0, .int .i64 0, .int .i64 0] 65
          have hs6 : V2.heap.size ≤ U4.heap.size := Bl.size B6
          generalize U4.alloc (.cells #[.pointer none, .int .i64 0, .int .i64 0, .int .i64 0, .int .i64 0, .int .i64 0, .int .i64 0, .int .i64 0, .int .i64 0] 65) = U7 at *
          generalize U4.heap.size = b9 at *
          refine hK9.out _ _ (SK.out _ B8) (fun _ => ?_)
          clear hK9 K9
          try simp only [Act.put, List.setIfInBounds_toArray, List.set_cons_zero, List.set_cons_succ, List.getElem_toArray, List.getElem_cons_succ, List.getElem_cons_zero]
          refine wpAnyH_ready (rs := [4]) (by kernel_rfl) (by simp) (AllReadyH.cons rfl (fun K9 hK9 => ?_) AllReadyH.nil)
          go_simp
          have B12 : Bl V2 _ := Bl.alloc B8 (.cells #[.pointer none, .int .i64 0, .int .i64 0, .int .i64 0, .int .i64 0, .int .i64 0, .int .i64 0, .int .i64 0, .int .i64 0] 65)
          have Y14 := Y10.alloc (.cells #[.pointer none, .int .i64 0, .int .i64 0, .int .i64 0, .int .i64 0, .int .i64 0, .int .i64 0, .int .i64 0, .int .i64 0] 65)
          have Y15 := At.new U7 #[.pointer none, .int .i64 0, .int .i64 0, .int .i64 0, .int .i64 0, .int .i64 0, .int .i64 0, .int .i64 0, .int .i64 0] 65
          have n16 : b9 ≠ U7.heap.size := Nat.ne_of_lt Y10.lt
          have hs5 : V2.heap.size ≤ U7.heap.size := Bl.size B8
          generalize U7.alloc (.cells #[.pointer none, .int .i64 0, .int .i64 0, .int .i64 0, .int .i64 0, .int .i64 0, .int .i64 0, .int .i64 0, .int .i64 0] 65) = U11 at *
          generalize U7.heap.size = b13 at *
          refine hK9.out _ _ (SK.out _ B12) (fun _ => ?_)
          clear hK9 K9
          try simp only [Act.put, List.setIfInBounds_toArray, List.set_cons_zero, List.set_cons_succ, List.getElem_toArray, List.getElem_cons_succ, List.getElem_cons_zero]
          refine wpAnyH_ready (rs := [6]) (by kernel_rfl) (by simp) (AllReadyH.cons rfl (fun K9 hK9 => ?_) AllReadyH.nil)
          refine step_store_row rfl 65 _ _ rfl b13 #[.pointer (some ⟨m1, 0, none⟩), .int .i64 ax1, .int .i64 ay1, .int .i64 s1, .int .i64 al1, .int .i64 p1, .int .i64 q1, .int .i64 r1, .int .i64 t1] rfl rfl _ _ Y15 (by kernel_rfl) rfl (by simp [Value.oneCell']) ?_
          have B18 : Bl V2 _ := Bl.srow B12 hs5 #[.pointer (some ⟨m1, 0, none⟩), .int .i64 ax1, .int .i64 ay1, .int .i64 s1, .int .i64 al1, .int .i64 p1, .int .i64 q1, .int .i64 r1, .int .i64 t1]
          have Y19 := Y14.kept (setRow_by _ b13 #[.pointer (some ⟨m1, 0, none⟩), .int .i64 ax1, .int .i64 ay1, .int .i64 s1, .int .i64 al1, .int .i64 p1, .int .i64 q1, .int .i64 r1, .int .i64 t1]) (by simpa using n16)
          have Y20 := Y15.setRow #[.pointer (some ⟨m1, 0, none⟩), .int .i64 ax1, .int .i64 ay1, .int .i64 s1, .int .i64 al1, .int .i64 p1, .int .i64 q1, .int .i64 r1, .int .i64 t1]
          generalize U11.setRow b13 #[.pointer (some ⟨m1, 0, none⟩), .int .i64 ax1, .int .i64 ay1, .int .i64 s1, .int .i64 al1, .int .i64 p1, .int .i64 q1, .int .i64 r1, .int .i64 t1] = U17 at *
          refine hK9.out _ _ (SK.out _ B18) (fun _ => ?_)
          clear hK9 K9
          try simp only [Act.put, List.getElem_toArray, List.getElem_cons_succ, List.getElem_cons_zero]
          refine wpAnyH_ready (rs := [7]) (by kernel_rfl) (by simp) (AllReadyH.cons rfl (fun K9 hK9 => ?_) AllReadyH.nil)
          refine step_store_row rfl 65 _ _ rfl b9 #[.pointer (some ⟨m2, 0, none⟩), .int .i64 ax2, .int .i64 ay2, .int .i64 s2, .int .i64 al2, .int .i64 p2, .int .i64 q2, .int .i64 r2, .int .i64 t2] rfl rfl _ _ Y19 (by kernel_rfl) rfl (by simp [Value.oneCell']) ?_
          have B22 : Bl V2 _ := Bl.srow B18 hs6 #[.pointer (some ⟨m2, 0, none⟩), .int .i64 ax2, .int .i64 ay2, .int .i64 s2, .int .i64 al2, .int .i64 p2, .int .i64 q2, .int .i64 r2, .int .i64 t2]
          have Y23 := Y19.setRow #[.pointer (some ⟨m2, 0, none⟩), .int .i64 ax2, .int .i64 ay2, .int .i64 s2, .int .i64 al2, .int .i64 p2, .int .i64 q2, .int .i64 r2, .int .i64 t2]
          have Y24 := Y20.kept (setRow_by _ b9 #[.pointer (some ⟨m2, 0, none⟩), .int .i64 ax2, .int .i64 ay2, .int .i64 s2, .int .i64 al2, .int .i64 p2, .int .i64 q2, .int .i64 r2, .int .i64 t2]) (by simpa using (Ne.symm n16))
          generalize U17.setRow b9 #[.pointer (some ⟨m2, 0, none⟩), .int .i64 ax2, .int .i64 ay2, .int .i64 s2, .int .i64 al2, .int .i64 p2, .int .i64 q2, .int .i64 r2, .int .i64 t2] = U21 at *
          refine hK9.out _ _ (SK.out _ B22) (fun _ => ?_)
          clear hK9 K9
          try simp only [Act.put, List.getElem_toArray, List.getElem_cons_succ, List.getElem_cons_zero]
          refine wpAnyH_done (by kernel_rfl) ?_ _
          have x0 := Y24.cell 0; have x1 := Y24.cell 1; have x2 := Y24.cell 2; have x3 := Y24.cell 3; have x4 := Y24.cell 4; have x5 := Y24.cell 5; have x6 := Y24.cell 6; have x7 := Y24.cell 7; have x8 := Y24.cell 8; have xf := Y24.free 0
          have z0 := Y23.cell 0; have z1 := Y23.cell 1; have z2 := Y23.cell 2; have z3 := Y23.cell 3; have z4 := Y23.cell 4; have z5 := Y23.cell 5; have z6 := Y23.cell 6; have z7 := Y23.cell 7; have z8 := Y23.cell 8; have zf := Y23.free 0
          clear SK cL1 cL2
          have eP := eqNil
          have hne56 := (Ne.symm n16)
          have hne65 := Ne.symm hne56
          go_wp2
          all_goals
            go_ret
            refine ⟨?_, hg.trans ((Bl.st1 (p := ⟨b9, 0, none⟩) (Bl.st1 (p := ⟨b13, 0, none⟩) B22 hs5 _) hs6 _))⟩
            show Ending.returned (Value.bool _) = _
            rw [hrv.out]
            congr 2
            simp [*]
      · go_simp
        have B5 : Bl V2 _ := Bl.alloc B3 (.cells #[.pointer none, .int .i64 0, .int .i64 0, .int .i64 0, .int .i64 0, .int .i64 0, .int .i64 0, .int .i64 0, .int .i64 0] 65)
        have Y7 := At.new U1 #[.pointer none, .int .i64 0, .int .i64 0, .int .i64 0, .int .i64 0, .int .i64 0, .int .i64 0, .int .i64 0, .int .i64 0] 65
        have hs5 : V2.heap.size ≤ U1.heap.size := Bl.size B3
        generalize U1.alloc (.cells #[.pointer none, .int .i64 0, .int .i64 0, .int .i64 0, .int .i64 0, .int .i64 0, .int .i64 0, .int .i64 0, .int .i64 0] 65) = U4 at *
        generalize U1.heap.size = b6 at *
        refine hK9.out _ _ (SK.out _ B5) (fun _ => ?_)
        clear hK9 K9
        try simp only [Act.put, List.setIfInBounds_toArray, List.set_cons_zero, List.set_cons_succ, List.getElem_toArray, List.getElem_cons_succ, List.getElem_cons_zero]
        refine wpAnyH_ready (rs := [3, 5]) (by kernel_rfl) (by simp) (AllReadyH.cons rfl (fun K9 hK9 => ?_) (AllReadyH.cons rfl (fun K9 hK9 => ?_) AllReadyH.nil))
        · go_simp
          refine (cL2.out _).mono ?_
          rintro e U8 ⟨rfl, g9⟩
          have B10 : Bl V2 U8 := Bl.gr B5 g9
          have Y11 := Y7.gr g9
          refine hK9.out _ _ (SK.out _ B10) (fun _ => ?_)
          clear hK9 K9
          try simp only [Act.put, List.setIfInBounds_toArray, List.set_cons_zero, List.set_cons_succ, List.getElem_toArray, List.getElem_cons_succ, List.getElem_cons_zero]
          refine wpAnyH_ready (rs := [5]) (by kernel_rfl) (by simp) (AllReadyH.cons rfl (fun K9 hK9 => ?_) AllReadyH.nil)
          go_simp
          have B13 : Bl V2 _ := Bl.alloc B10 (.cells #[.pointer none, .int .i64 0, .int .i64 0, .int .i64 0, .int .i64 0, .int .i64 0, .int .i64 0, .int .i64 0, .int .i64 0] 65)
          have Y15 := Y11.alloc (.cells #[.pointer none, .int .i64 0, .int .i64 0, .int .i64 0, .int .i64 0, .int .i64 0, .int .i64 0, .int .i64 0, .int .i64 0] 65)
          have Y16 := At.new U8 #[.pointer none, .int .i64 0, .int .i64 0, .int .i64 0, .int .i64 0, .int .i64 0, .int .i64 0, .int .i64 0, .int .i64 0] 65
          have n17 : b6 ≠ U8.heap.size := Nat.ne_of_lt Y11.lt
          have hs6 : V2.heap.size ≤ U8.heap.size := Bl.size B10
          generalize U8.alloc (.cells #[.pointer none, .int .i64 0, .int .i64 0, .int .i64 0, .int .i64 0, .int .i64 0, .int .i64 0, .int .i64 0, .int .i64 0] 65) = U12 at *
          generalize U8.heap.size = b14 at *
          refine hK9.out _ _ (SK.out _ B13) (fun _ => ?_)
          clear hK9 K9
          try simp only [Act.put, List.setIfInBounds_toArray, List.set_cons_zero, List.set_cons_succ, List.getElem_toArray, List.getElem_cons_succ, List.getElem_cons_zero]
          refine wpAnyH_ready (rs := [6]) (by kernel_rfl) (by simp) (AllReadyH.cons rfl (fun K9 hK9 => ?_) AllReadyH.nil)
          refine step_store_row rfl 65 _ _ rfl b6 #[.pointer (some ⟨m1, 0, none⟩), .int .i64 ax1, .int .i64 ay1, .int .i64 s1, .int .i64 al1, .int .i64 p1, .int .i64 q1, .int .i64 r1, .int .i64 t1] rfl rfl _ _ Y15 (by kernel_rfl) rfl (by simp [Value.oneCell']) ?_
          have B19 : Bl V2 _ := Bl.srow B13 hs5 #[.pointer (some ⟨m1, 0, none⟩), .int .i64 ax1, .int .i64 ay1, .int .i64 s1, .int .i64 al1, .int .i64 p1, .int .i64 q1, .int .i64 r1, .int .i64 t1]
          have Y20 := Y15.setRow #[.pointer (some ⟨m1, 0, none⟩), .int .i64 ax1, .int .i64 ay1, .int .i64 s1, .int .i64 al1, .int .i64 p1, .int .i64 q1, .int .i64 r1, .int .i64 t1]
          have Y21 := Y16.kept (setRow_by _ b6 #[.pointer (some ⟨m1, 0, none⟩), .int .i64 ax1, .int .i64 ay1, .int .i64 s1, .int .i64 al1, .int .i64 p1, .int .i64 q1, .int .i64 r1, .int .i64 t1]) (by simpa using (Ne.symm n17))
          generalize U12.setRow b6 #[.pointer (some ⟨m1, 0, none⟩), .int .i64 ax1, .int .i64 ay1, .int .i64 s1, .int .i64 al1, .int .i64 p1, .int .i64 q1, .int .i64 r1, .int .i64 t1] = U18 at *
          refine hK9.out _ _ (SK.out _ B19) (fun _ => ?_)
          clear hK9 K9
          try simp only [Act.put, List.getElem_toArray, List.getElem_cons_succ, List.getElem_cons_zero]
          refine wpAnyH_ready (rs := [7]) (by kernel_rfl) (by simp) (AllReadyH.cons rfl (fun K9 hK9 => ?_) AllReadyH.nil)
          refine step_store_row rfl 65 _ _ rfl b14 #[.pointer (some ⟨m2, 0, none⟩), .int .i64 ax2, .int .i64 ay2, .int .i64 s2, .int .i64 al2, .int .i64 p2, .int .i64 q2, .int .i64 r2, .int .i64 t2] rfl rfl _ _ Y21 (by kernel_rfl) rfl (by simp [Value.oneCell']) ?_
          have B23 : Bl V2 _ := Bl.srow B19 hs6 #[.pointer (some ⟨m2, 0, none⟩), .int .i64 ax2, .int .i64 ay2, .int .i64 s2, .int .i64 al2, .int .i64 p2, .int .i64 q2, .int .i64 r2, .int .i64 t2]
          have Y24 := Y20.kept (setRow_by _ b14 #[.pointer (some ⟨m2, 0, none⟩), .int .i64 ax2, .int .i64 ay2, .int .i64 s2, .int .i64 al2, .int .i64 p2, .int .i64 q2, .int .i64 r2, .int .i64 t2]) (by simpa using n17)
          have Y25 := Y21.setRow #[.pointer (some ⟨m2, 0, none⟩), .int .i64 ax2, .int .i64 ay2, .int .i64 s2, .int .i64 al2, .int .i64 p2, .int .i64 q2, .int .i64 r2, .int .i64 t2]
          generalize U18.setRow b14 #[.pointer (some ⟨m2, 0, none⟩), .int .i64 ax2, .int .i64 ay2, .int .i64 s2, .int .i64 al2, .int .i64 p2, .int .i64 q2, .int .i64 r2, .int .i64 t2] = U22 at *
          refine hK9.out _ _ (SK.out _ B23) (fun _ => ?_)
          clear hK9 K9
          try simp only [Act.put, List.getElem_toArray, List.getElem_cons_succ, List.getElem_cons_zero]
          refine wpAnyH_done (by kernel_rfl) ?_ _
          have x0 := Y24.cell 0; have x1 := Y24.cell 1; have x2 := Y24.cell 2; have x3 := Y24.cell 3; have x4 := Y24.cell 4; have x5 := Y24.cell 5; have x6 := Y24.cell 6; have x7 := Y24.cell 7; have x8 := Y24.cell 8; have xf := Y24.free 0
          have z0 := Y25.cell 0; have z1 := Y25.cell 1; have z2 := Y25.cell 2; have z3 := Y25.cell 3; have z4 := Y25.cell 4; have z5 := Y25.cell 5; have z6 := Y25.cell 6; have z7 := Y25.cell 7; have z8 := Y25.cell 8; have zf := Y25.free 0
          clear SK cL1 cL2
          have eP := eqNil
          have hne56 := n17
          have hne65 := Ne.symm hne56
          go_wp2
          all_goals
            go_ret
            refine ⟨?_, hg.trans ((Bl.st1 (p := ⟨b14, 0, none⟩) (Bl.st1 (p := ⟨b6, 0, none⟩) B23 hs5 _) hs6 _))⟩
            show Ending.returned (Value.bool _) = _
            rw [hrv.out]
            congr 2
            simp [*]
        · go_simp
          have B9 : Bl V2 _ := Bl.alloc B5 (.cells #[.pointer none, .int .i64 0, .int .i64 0, .int .i64 0, .int .i64 0, .int .i64 0, .int .i64 0, .int .i64 0, .int .i64 0] 65)
          have Y11 := Y7.alloc (.cells #[.pointer none, .int .i64 0, .int .i64 0, .int .i64 0, .int .i64 0, .int .i64 0, .int .i64 0, .int .i64 0, .int .i64 0] 65)
          have Y12 := At.new U4 #[.pointer none, .int .i64 0, .int .i64 0, .int .i64 0, .int .i64 0, .int .i64 0, .int .i64 0, .int .i64 0, .int .i64 0] 65
          have n13 : b6 ≠ U4.heap.size := Nat.ne_of_lt Y7.lt
          have hs6 : V2.heap.size ≤ U4.heap.size := Bl.size B5
          generalize U4.alloc (.cells #[.pointer none, .int .i64 0, .int .i64 0, .int .i64 0, .int .i64 0, .int .i64 0, .int .i64 0, .int .i64 0, .int .i64 0] 65) = U8 at *
          generalize U4.heap.size = b10 at *
          refine hK9.out _ _ (SK.out _ B9) (fun _ => ?_)
          clear hK9 K9
          try simp only [Act.put, List.setIfInBounds_toArray, List.set_cons_zero, List.set_cons_succ, List.getElem_toArray, List.getElem_cons_succ, List.getElem_cons_zero]
          refine wpAnyH_ready (rs := [3]) (by kernel_rfl) (by simp) (AllReadyH.cons rfl (fun K9 hK9 => ?_) AllReadyH.nil)
          go_simp
          refine (cL2.out _).mono ?_
          rintro e U14 ⟨rfl, g15⟩
          have B16 : Bl V2 U14 := Bl.gr B9 g15
          have Y17 := Y11.gr g15
          have Y18 := Y12.gr g15
          refine hK9.out _ _ (SK.out _ B16) (fun _ => ?_)
          clear hK9 K9
          try simp only [Act.put, List.setIfInBounds_toArray, List.set_cons_zero, List.set_cons_succ, List.getElem_toArray, List.getElem_cons_succ, List.getElem_cons_zero]
          refine wpAnyH_ready (rs := [6]) (by kernel_rfl) (by simp) (AllReadyH.cons rfl (fun K9 hK9 => ?_) AllReadyH.nil)
          refine step_store_row rfl 65 _ _ rfl b6 #[.pointer (some ⟨m1, 0, none⟩), .int .i64 ax1, .int .i64 ay1, .int .i64 s1, .int .i64 al1, .int .i64 p1, .int .i64 q1, .int .i64 r1, .int .i64 t1] rfl rfl _ _ Y17 (by kernel_rfl) rfl (by simp [Value.oneCell']) ?_
          have B20 : Bl V2 _ := Bl.srow B16 hs5 #[.pointer (some ⟨m1, 0, none⟩), .int .i64 ax1, .int .i64 ay1, .int .i64 s1, .int .i64 al1, .int .i64 p1, .int .i64 q1, .int .i64 r1, .int .i64 t1]
          have Y21 := Y17.setRow #[.pointer (some ⟨m1, 0, none⟩), .int .i64 ax1, .int .i64 ay1, .int .i64 s1, .int .i64 al1, .int .i64 p1, .int .i64 q1, .int .i64 r1, .int .i64 t1]
          have Y22 := Y18.kept (setRow_by _ b6 #[.pointer (some ⟨m1, 0, none⟩), .int .i64 ax1, .int .i64 ay1, .int .i64 s1, .int .i64 al1, .int .i64 p1, .int .i64 q1, .int .i64 r1, .int .i64 t1]) (by simpa using (Ne.symm n13))
          generalize U14.setRow b6 #[.pointer (some ⟨m1, 0, none⟩), .int .i64 ax1, .int .i64 ay1, .int .i64 s1, .int .i64 al1, .int .i64 p1, .int .i64 q1, .int .i64 r1, .int .i64 t1] = U19 at *
          refine hK9.out _ _ (SK.out _ B20) (fun _ => ?_)
          clear hK9 K9
          try simp only [Act.put, List.getElem_toArray, List.getElem_cons_succ, List.getElem_cons_zero]
          refine wpAnyH_ready (rs := [7]) (by kernel_rfl) (by simp) (AllReadyH.cons rfl (fun K9 hK9 => ?_) AllReadyH.nil)
          refine step_store_row rfl 65 _ _ rfl b10 #[.pointer (some ⟨m2, 0, none⟩), .int .i64 ax2, .int .i64 ay2, .int .i64 s2, .int .i64 al2, .int .i64 p2, .int .i64 q2, .int .i64 r2, .int .i64 t2] rfl rfl _ _ Y22 (by kernel_rfl) rfl (by simp [Value.oneCell']) ?_
          have B24 : Bl V2 _ := Bl.srow B20 hs6 #[.pointer (some ⟨m2, 0, none⟩), .int .i64 ax2, .int .i64 ay2, .int .i64 s2, .int .i64 al2, .int .i64 p2, .int .i64 q2, .int .i64 r2, .int .i64 t2]
          have Y25 := Y21.kept (setRow_by _ b10 #[.pointer (some ⟨m2, 0, none⟩), .int .i64 ax2, .int .i64 ay2, .int .i64 s2, .int .i64 al2, .int .i64 p2, .int .i64 q2, .int .i64 r2, .int .i64 t2]) (by simpa using n13)
          have Y26 := Y22.setRow #[.pointer (some ⟨m2, 0, none⟩), .int .i64 ax2, .int .i64 ay2, .int .i64 s2, .int .i64 al2, .int .i64 p2, .int .i64 q2, .int .i64 r2, .int .i64 t2]
          generalize U19.setRow b10 #[.pointer (some ⟨m2, 0, none⟩), .int .i64 ax2, .int .i64 ay2, .int .i64 s2, .int .i64 al2, .int .i64 p2, .int .i64 q2, .int .i64 r2, .int .i64 t2] = U23 at *
          refine hK9.out _ _ (SK.out _ B24) (fun _ => ?_)
          clear hK9 K9
          try simp only [Act.put, List.getElem_toArray, List.getElem_cons_succ, List.getElem_cons_zero]
          refine wpAnyH_done (by kernel_rfl) ?_ _
          have x0 := Y25.cell 0; have x1 := Y25.cell 1; have x2 := Y25.cell 2; have x3 := Y25.cell 3; have x4 := Y25.cell 4; have x5 := Y25.cell 5; have x6 := Y25.cell 6; have x7 := Y25.cell 7; have x8 := Y25.cell 8; have xf := Y25.free 0
          have z0 := Y26.cell 0; have z1 := Y26.cell 1; have z2 := Y26.cell 2; have z3 := Y26.cell 3; have z4 := Y26.cell 4; have z5 := Y26.cell 5; have z6 := Y26.cell 6; have z7 := Y26.cell 7; have z8 := Y26.cell 8; have zf := Y26.free 0
          clear SK cL1 cL2
          have eP := eqNil
          have hne56 := n13
          have hne65 := Ne.symm hne56
          go_wp2
          all_goals
            go_ret
            refine ⟨?_, hg.trans ((Bl.st1 (p := ⟨b10, 0, none⟩) (Bl.st1 (p := ⟨b6, 0, none⟩) B24 hs5 _) hs6 _))⟩
            show Ending.returned (Value.bool _) = _
            rw [hrv.out]
            congr 2
            simp [*]
      · go_simp
        have B5 : Bl V2 _ := Bl.alloc B3 (.cells #[.pointer none, .int .i64 0, .int .i64 0, .int .i64 0, .int .i64 0, .int .i64 0, .int .i64 0, .int .i64 0, .int .i64 0] 65)
        have Y7 := At.new U1 #[.pointer none, .int .i64 0, .int .i64 0, .int .i64 0, .int .i64 0, .int .i64 0, .int .i64 0, .int .i64 0, .int .i64 0] 65
        have hs6 : V2.heap.size ≤ U1.heap.size := Bl.size B3
        generalize U1.alloc (.cells #[.pointer none, .int .i64 0, .int .i64 0, .int .i64 0, .int .i64 0, .int .i64 0, .int .i64 0, .int .i64 0, .int .i64 0] 65) = U4 at *
        generalize U1.heap.size = b6 at *
        refine hK9.out _ _ (SK.out _ B5) (fun _ => ?_)
        clear hK9 K9
        try simp only [Act.put, List.setIfInBounds_toArray, List.set_cons_zero, List.set_cons_succ, List.getElem_toArray, List.getElem_cons_succ, List.getElem_cons_zero]
        refine wpAnyH_ready (rs := [3, 4]) (by kernel_rfl) (by simp) (AllReadyH.cons rfl (fun K9 hK9 => ?_) (AllReadyH.cons rfl (fun K9 hK9 => ?_) AllReadyH.nil))
        · go_simp
          refine (cL2.out _).mono ?_
          rintro e U8 ⟨rfl, g9⟩
          have B10 : Bl V2 U8 := Bl.gr B5 g9
          have Y11 := Y7.gr g9
          refine hK9.out _ _ (SK.out _ B10) (fun _ => ?_)
          clear hK9 K9
          try simp only [Act.put, List.setIfInBounds_toArray, List.set_cons_zero, List.set_cons_succ, List.getElem_toArray, List.getElem_cons_succ, List.getElem_cons_zero]
          refine wpAnyH_ready (rs := [4]) (by kernel_rfl) (by simp) (AllReadyH.cons rfl (fun K9 hK9 => ?_) AllReadyH.nil)
          go_simp
          have B13 : Bl V2 _ := Bl.alloc B10 (.cells #[.pointer none, .int .i64 0, .int .i64 0, .int .i64 0, .int .i64 0, .int .i64 0, .int .i64 0, .int .i64 0, .int .i64 0] 65)
          have Y15 := Y11.alloc (.cells #[.pointer none, .int .i64 0, .int .i64 0, .int .i64 0, .int .i64 0, .int .i64 0, .int .i64 0, .int .i64 0, .int .i64 0] 65)
          have Y16 := At.new U8 #[.pointer none, .int .i64 0, .int .i64 0, .int .i64 0, .int .i64 0, .int .i64 0, .int .i64 0, .int .i64 0, .int .i64 0] 65
          have n17 : b6 ≠ U8.heap.size := Nat.ne_of_lt Y11.lt
          have hs5 : V2.heap.size ≤ U8.heap.size := Bl.size B10
          generalize U8.alloc (.cells #[.pointer none, .int .i64 0, .int .i64 0, .int .i64 0, .int .i64 0, .int .i64 0, .int .i64 0, .int .i64 0, .int .i64 0] 65) = U12 at *
          generalize U8.heap.size = b14 at *
          refine hK9.out _ _ (SK.out _ B13) (fun _ => ?_)
          clear hK9 K9
          try simp only [Act.put, List.setIfInBounds_toArray, List.set_cons_zero, List.set_cons_succ, List.getElem_toArray, List.getElem_cons_succ, List.getElem_cons_zero]
          refine wpAnyH_ready (rs := [6]) (by kernel_rfl) (by simp) (AllReadyH.cons rfl (fun K9 hK9 => ?_) AllReadyH.nil)
          refine step_store_row rfl 65 _ _ rfl b14 #[.pointer (some ⟨m1, 0, none⟩), .int .i64 ax1, .int .i64 ay1, .int .i64 s1, .int .i64 al1, .int .i64 p1, .int .i64 q1, .int .i64 r1, .int .i64 t1] rfl rfl _ _ Y16 (by kernel_rfl) rfl (by simp [Value.oneCell']) ?_
          have B19 : Bl V2 _ := Bl.srow B13 hs5 #[.pointer (some ⟨m1, 0, none⟩), .int .i64 ax1, .int .i64 ay1, .int .i64 s1, .int .i64 al1, .int .i64 p1, .int .i64 q1, .int .i64 r1, .int .i64 t1]
          have Y20 := Y15.kept (setRow_by _ b14 #[.pointer (some ⟨m1, 0, none⟩), .int .i64 ax1, .int .i64 ay1, .int .i64 s1, .int .i64 al1, .int .i64 p1, .int .i64 q1, .int .i64 r1, .int .i64 t1]) (by simpa using n17)
          have Y21 := Y16.setRow #[.pointer (some ⟨m1, 0, none⟩), .int .i64 ax1, .int .i64 ay1, .int .i64 s1, .int .i64 al1, .int .i64 p1, .int .i64 q1, .int .i64 r1, .int .i64 t1]
          generalize U12.setRow b14 #[.pointer (some ⟨m1, 0, none⟩), .int .i64 ax1, .int .i64 ay1, .int .i64 s1, .int .i64 al1, .int .i64 p1, .int .i64 q1, .int .i64 r1, .int .i64 t1] = U18 at *
          refine hK9.out _ _ (SK.out _ B19) (fun _ => ?_)
          clear hK9 K9
          try simp only [Act.put, List.getElem_toArray, List.getElem_cons_succ, List.getElem_cons_zero]
          refine wpAnyH_ready (rs := [7]) (by kernel_rfl) (by simp) (AllReadyH.cons rfl (fun K9 hK9 => ?_) AllReadyH.nil)
          refine step_store_row rfl 65 _ _ rfl b6 #[.pointer (some ⟨m2, 0, none⟩), .int .i64 ax2, .int .i64 ay2, .int .i64 s2, .int .i64 al2, .int .i64 p2, .int .i64 q2, .int .i64 r2, .int .i64 t2] rfl rfl _ _ Y20 (by kernel_rfl) rfl (by simp [Value.oneCell']) ?_
          have B23 : Bl V2 _ := Bl.srow B19 hs6 #[.pointer (some ⟨m2, 0, none⟩), .int .i64 ax2, .int .i64 ay2, .int .i64 s2, .int .i64 al2, .int .i64 p2, .int .i64 q2, .int .i64 r2, .int .i64 t2]
          have Y24 := Y20.setRow #[.pointer (some ⟨m2, 0, none⟩), .int .i64 ax2, .int .i64 ay2, .int .i64 s2, .int .i64 al2, .int .i64 p2, .int .i64 q2, .int .i64 r2, .int .i64 t2]
          have Y25 := Y21.kept (setRow_by _ b6 #[.pointer (some ⟨m2, 0, none⟩), .int .i64 ax2, .int .i64 ay2, .int .i64 s2, .int .i64 al2, .int .i64 p2, .int .i64 q2, .int .i64 r2, .int .i64 t2]) (by simpa using (Ne.symm n17))
          generalize U18.setRow b6 #[.pointer (some ⟨m2, 0, none⟩), .int .i64 ax2, .int .i64 ay2, .int .i64 s2, .int .i64 al2, .int .i64 p2, .int .i64 q2, .int .i64 r2, .int .i64 t2] = U22 at *
          refine hK9.out _ _ (SK.out _ B23) (fun _ => ?_)
          clear hK9 K9
          try simp only [Act.put, List.getElem_toArray, List.getElem_cons_succ, List.getElem_cons_zero]
          refine wpAnyH_done (by kernel_rfl) ?_ _
          have x0 := Y25.cell 0; have x1 := Y25.cell 1; have x2 := Y25.cell 2; have x3 := Y25.cell 3; have x4 := Y25.cell 4; have x5 := Y25.cell 5; have x6 := Y25.cell 6; have x7 := Y25.cell 7; have x8 := Y25.cell 8; have xf := Y25.free 0
          have z0 := Y24.cell 0; have z1 := Y24.cell 1; have z2 := Y24.cell 2; have z3 := Y24.cell 3; have z4 := Y24.cell 4; have z5 := Y24.cell 5; have z6 := Y24.cell 6; have z7 := Y24.cell 7; have z8 := Y24.cell 8; have zf := Y24.free 0
          clear SK cL1 cL2
          have eP := eqNil
          have hne56 := (Ne.symm n17)
          have hne65 := Ne.symm hne56
          go_wp2
          all_goals
            go_ret
            refine ⟨?_, hg.trans ((Bl.st1 (p := ⟨b6, 0, none⟩) (Bl.st1 (p := ⟨b14, 0, none⟩) B23 hs5 _) hs6 _))⟩
            show Ending.returned (Value.bool _) = _
            rw [hrv.out]
            congr 2
            simp [*]
        · go_simp
          have B9 : Bl V2 _ := Bl.alloc B5 (.cells #[.pointer none, .int .i64 0, .int .i64 0, .int .i64 0, .int .i64 0, .int .i64 0, .int .i64 0, .int .i64 0, .int .i64 0] 65)
          have Y11 := Y7.alloc (.cells #[.pointer none, .int .i64 0, .int .i64 0, .int .i64 0, .int .i64 0, .int .i64 0, .int .i64 0, .int .i64 0, .int .i64 0] 65)
          have Y12 := At.new U4 #[.pointer none, .int .i64 0, .int .i64 0, .int .i64 0, .int .i64 0, .int .i64 0, .int .i64 0, .int .i64 0, .int .i64 0] 65
          have n13 : b6 ≠ U4.heap.size := Nat.ne_of_lt Y7.lt
          have hs5 : V2.heap.size ≤ U4.heap.size := Bl.size B5
          generalize U4.alloc (.cells #[.pointer none, .int .i64 0, .int .i64 0, .int .i64 0, .int .i64 0, .int .i64 0, .int .i64 0, .int .i64 0, .int .i64 0] 65) = U8 at *
          generalize U4.heap.size = b10 at *
          refine hK9.out _ _ (SK.out _ B9) (fun _ => ?_)
          clear hK9 K9
          try simp only [Act.put, List.setIfInBounds_toArray, List.set_cons_zero, List.set_cons_succ, List.getElem_toArray, List.getElem_cons_succ, List.getElem_cons_zero]
          refine wpAnyH_ready (rs := [3]) (by kernel_rfl) (by simp) (AllReadyH.cons rfl (fun K9 hK9 => ?_) AllReadyH.nil)
          go_simp
          refine (cL2.out _).mono ?_
          rintro e U14 ⟨rfl, g15⟩
          have B16 : Bl V2 U14 := Bl.gr B9 g15
          have Y17 := Y11.gr g15
          have Y18 := Y12.gr g15
          refine hK9.out _ _ (SK.out _ B16) (fun _ => ?_)
          clear hK9 K9
          try simp only [Act.put, List.setIfInBounds_toArray, List.set_cons_zero, List.set_cons_succ, List.getElem_toArray, List.getElem_cons_succ, List.getElem_cons_zero]
          refine wpAnyH_ready (rs := [6]) (by kernel_rfl) (by simp) (AllReadyH.cons rfl (fun K9 hK9 => ?_) AllReadyH.nil)
          refine step_store_row rfl 65 _ _ rfl b10 #[.pointer (some ⟨m1, 0, none⟩), .int .i64 ax1, .int .i64 ay1, .int .i64 s1, .int .i64 al1, .int .i64 p1, .int .i64 q1, .int .i64 r1, .int .i64 t1] rfl rfl _ _ Y18 (by kernel_rfl) rfl (by simp [Value.oneCell']) ?_
          have B20 : Bl V2 _ := Bl.srow B16 hs5 #[.pointer (some ⟨m1, 0, none⟩), .int .i64 ax1, .int .i64 ay1, .int .i64 s1, .int .i64 al1, .int .i64 p1, .int .i64 q1, .int .i64 r1, .int .i64 t1]
          have Y21 := Y17.kept (setRow_by _ b10 #[.pointer (some ⟨m1, 0, none⟩), .int .i64 ax1, .int .i64 ay1, .int .i64 s1, .int .i64 al1, .int .i64 p1, .int .i64 q1, .int .i64 r1, .int .i64 t1]) (by simpa using n13)
          have Y22 := Y18.setRow #[.pointer (some ⟨m1, 0, none⟩), .int .i64 ax1, .int .i64 ay1, .int .i64 s1, .int .i64 al1, .int .i64 p1, .int .i64 q1, .int .i64 r1, .int .i64 t1]
          generalize U14.setRow b10 #[.pointer (some ⟨m1, 0, none⟩), .int .i64 ax1, .int .i64 ay1, .int .i64 s1, .int .i64 al1, .int .i64 p1, .int .i64 q1, .int .i64 r1, .int .i64 t1] = U19 at *
          refine hK9.out _ _ (SK.out _ B20) (fun _ => ?_)
          clear hK9 K9
          try simp only [Act.put, List.getElem_toArray, List.getElem_cons_succ, List.getElem_cons_zero]
          refine wpAnyH_ready (rs := [7]) (by kernel_rfl) (by simp) (AllReadyH.cons rfl (fun K9 hK9 => ?_) AllReadyH.nil)
          refine step_store_row rfl 65 _ _ rfl b6 #[.pointer (some ⟨m2, 0, none⟩), .int .i64 ax2, .int .i64 ay2, .int .i64 s2, .int .i64 al2, .int .i64 p2, .int .i64 q2, .int .i64 r2, .int .i64 t2] rfl rfl _ _ Y21 (by kernel_rfl) rfl (by simp [Value.oneCell']) ?_
          have B24 : Bl V2 _ := Bl.srow B20 hs6 #[.pointer (some ⟨m2, 0, none⟩), .int .i64 ax2, .int .i64 ay2, .int .i64 s2, .int .i64 al2, .int .i64 p2, .int .i64 q2, .int .i64 r2, .int .i64 t2]
          have Y25 := Y21.setRow #[.pointer (some ⟨m2, 0, none⟩), .int .i64 ax2, .int .i64 ay2, .int .i64 s2, .int .i64 al2, .int .i64 p2, .int .i64 q2, .int .i64 r2, .int .i64 t2]
          have Y26 := Y22.kept (setRow_by _ b6 #[.pointer (some ⟨m2, 0, none⟩), .int .i64 ax2, .int .i64 ay2, .int .i64 s2, .int .i64 al2, .int .i64 p2, .int .i64 q2, .int .i64 r2, .int .i64 t2]) (by simpa using (Ne.symm n13))
          generalize U19.setRow b6 #[.pointer (some ⟨m2, 0, none⟩), .int .i64 ax2, .int .i64 ay2, .int .i64 s2, .int .i64 al2, .int .i64 p2, .int .i64 q2, .int .i64 r2, .int .i64 t2] = U23 at *
          refine hK9.out _ _ (SK.out _ B24) (fun _ => ?_)
          clear hK9 K9
          try simp only [Act.put, List.getElem_toArray, List.getElem_cons_succ, List.getElem_cons_zero]
          refine wpAnyH_done (by kernel_rfl) ?_ _
          have x0 := Y26.cell 0; have x1 := Y26.cell 1; have x2 := Y26.cell 2; have x3 := Y26.cell 3; have x4 := Y26.cell 4; have x5 := Y26.cell 5; have x6 := Y26.cell 6; have x7 := Y26.cell 7; have x8 := Y26.cell 8; have xf := Y26.free 0
          have z0 := Y25.cell 0; have z1 := Y25.cell 1; have z2 := Y25.cell 2; have z3 := Y25.cell 3; have z4 := Y25.cell 4; have z5 := Y25.cell 5; have z6 := Y25.cell 6; have z7 := Y25.cell 7; have z8 := Y25.cell 8; have zf := Y25.free 0
          clear SK cL1 cL2
          have eP := eqNil
          have hne56 := (Ne.symm n13)
          have hne65 := Ne.symm hne56
          go_wp2
          all_goals
            go_ret
            refine ⟨?_, hg.trans ((Bl.st1 (p := ⟨b6, 0, none⟩) (Bl.st1 (p := ⟨b10, 0, none⟩) B24 hs5 _) hs6 _))⟩
            show Ending.returned (Value.bool _) = _
            rw [hrv.out]
            congr 2
            simp [*]
    · go_simp
      have B2 : Bl V2 _ := Bl.alloc B0 (.cells #[.pointer none, .int .i64 0, .int .i64 0, .int .i64 0, .int .i64 0, .int .i64 0, .int .i64 0, .int .i64 0, .int .i64 0] 65)
      have Y4 := At.new U0 #[.pointer none, .int .i64 0, .int .i64 0, .int .i64 0, .int .i64 0, .int .i64 0, .int .i64 0, .int .i64 0, .int .i64 0] 65
      have hs5 : V2.heap.size ≤ U0.heap.size := Bl.size B0
      generalize U0.alloc (.cells #[.pointer none, .int .i64 0, .int .i64 0, .int .i64 0, .int .i64 0, .int .i64 0, .int .i64 0, .int .i64 0, .int .i64 0] 65) = U1 at *
      generalize U0.heap.size = b3 at *
      refine hK9.out _ _ (SK.out _ B2) (fun _ => ?_)
      clear hK9 K9
      try simp only [Act.put, List.setIfInBounds_toArray, List.set_cons_zero, List.set_cons_succ, List.getElem_toArray, List.getElem_cons_succ, List.getElem_cons_zero]
      refine wpAnyH_ready (rs := [1, 5]) (by kernel_rfl) (by simp) (AllReadyH.cons rfl (fun K9 hK9 => ?_) (AllReadyH.cons rfl (fun K9 hK9 => ?_) AllReadyH.nil))
      · go_simp
        refine (cL1.out _).mono ?_
        rintro e U5 ⟨rfl, g6⟩
        have B7 : Bl V2 U5 := Bl.gr B2 g6
        have Y8 := Y4.gr g6
        refine hK9.out _ _ (SK.out _ B7) (fun _ => ?_)
        clear hK9 K9
        try simp only [Act.put, List.setIfInBounds_toArray, List.set_cons_zero, List.set_cons_succ, List.getElem_toArray, List.getElem_cons_succ, List.getElem_cons_zero]
        refine wpAnyH_ready (rs := [3, 5]) (by kernel_rfl) (by simp) (AllReadyH.cons rfl (fun K9 hK9 => ?_) (AllReadyH.cons rfl (fun K9 hK9 => ?_) AllReadyH.nil))
        · go_simp
          refine (cL2.out _).mono ?_
          rintro e U9 ⟨rfl, g10⟩
          have B11 : Bl V2 U9 := Bl.gr B7 g10
          have Y12 := Y8.gr g10
          refine hK9.out _ _ (SK.out _ B11) (fun _ => ?_)
          clear hK9 K9
          try simp only [Act.put, List.setIfInBounds_toArray, List.set_cons_zero, List.set_cons_succ, List.getElem_toArray, List.getElem_cons_succ, List.getElem_cons_zero]
          refine wpAnyH_ready (rs := [5]) (by kernel_rfl) (by simp) (AllReadyH.cons rfl (fun K9 hK9 => ?_) AllReadyH.nil)
          go_simp
          have B14 : Bl V2 _ := Bl.alloc B11 (.cells #[.pointer none, .int .i64 0, .int .i64 0, .int .i64 0, .int .i64 0, .int .i64 0, .int .i64 0, .int .i64 0, .int .i64 0] 65)
          have Y16 := Y12.alloc (.cells #[.pointer none, .int .i64 0, .int .i64 0, .int .i64 0, .int .i64 0, .int .i64 0, .int .i64 0, .int .i64 0, .int .i64 0] 65)
          have Y17 := At.new U9 #[.pointer none, .int .i64 0, .int .i64 0, .int .i64 0, .int .i64 0, .int .i64 0, .int .i64 0, .int .i64 0, .int .i64 0] 65
          have n18 : b3 ≠ U9.heap.size := Nat.ne_of_lt Y12.lt
          have hs6 : V2.heap.size ≤ U9.heap.size := Bl.size B11
          generalize U9.alloc (.cells #[.pointer none, .int .i64 0, .int .i64 0, .int .i64 0, .int .i64 0, .int .i64 0, .int .i64 0, .int .i64 0, .int .i64 0] 65) = U13 at *
          generalize U9.heap.size = b15 at *
          refine hK9.out _ _ (SK.out _ B14) (fun _ => ?_)
          clear hK9 K9
          try simp only [Act.put, List.setIfInBounds_toArray, List.set_cons_zero, List.set_cons_succ, List.getElem_toArray, List.getElem_cons_succ, List.getElem_cons_zero]
          refine wpAnyH_ready (rs := [6]) (by kernel_rfl) (by simp) (AllReadyH.cons rfl (fun K9 hK9 => ?_) AllReadyH.nil)
          refine step_store_row rfl 65 _ _ rfl b3 #[.pointer (some ⟨m1, 0, none⟩), .int .i64 ax1, .int .i64 ay1, .int .i64 s1, .int .i64 al1, .int .i64 p1, .int .i64 q1, .int .i64 r1, .int .i64 t1] rfl rfl _ _ Y16 (by kernel_rfl) rfl (by simp [Value.oneCell']) ?_
          have B20 : Bl V2 _ := Bl.srow B14 hs5 #[.pointer (some ⟨m1, 0, none⟩), .int .i64 ax1, .int .i64 ay1, .int .i64 s1, .int .i64 al1, .int .i64 p1, .int .i64 q1, .int .i64 r1, .int .i64 t1]
          have Y21 := Y16.setRow #[.pointer (some ⟨m1, 0, none⟩), .int .i64 ax1, .int .i64 ay1, .int .i64 s1, .int .i64 al1, .int .i64 p1, .int .i64 q1, .int .i64 r1, .int .i64 t1]
          have Y22 := Y17.kept (setRow_by _ b3 #[.pointer (some ⟨m1, 0, none⟩), .int .i64 ax1, .int .i64 ay1, .int .i64 s1, .int .i64 al1, .int .i64 p1, .int .i64 q1, .int .i64 r1, .int .i64 t1]) (by simpa using (Ne.symm n18))
          generalize U13.setRow b3 #[.pointer (some ⟨m1, 0, none⟩), .int .i64 ax1, .int .i64 ay1, .int .i64 s1, .int .i64 al1, .int .i64 p1, .int .i64 q1, .int .i64 r1, .int .i64 t1] = U19 at *
          refine hK9.out _ _ (SK.out _ B20) (fun _ => ?_)
          clear hK9 K9
          try simp only [Act.put, List.getElem_toArray, List.getElem_cons_succ, List.getElem_cons_zero]
          refine wpAnyH_ready (rs := [7]) (by kernel_rfl) (by simp) (AllReadyH.cons rfl (fun K9 hK9 => ?_) AllReadyH.nil)
          refine step_store_row rfl 65 _ _ rfl b15 #[.pointer (some ⟨m2, 0, none⟩), .int .i64 ax2, .int .i64 ay2, .int .i64 s2, .int .i64 al2, .int .i64 p2, .int .i64 q2, .int .i64 r2, .int .i64 t2] rfl rfl _ _ Y22 (by kernel_rfl) rfl (by simp [Value.oneCell']) ?_
          have B24 : Bl V2 _ := Bl.srow B20 hs6 #[.pointer (some ⟨m2, 0, none⟩), .int .i64 ax2, .int .i64 ay2, .int .i64 s2, .int .i64 al2, .int .i64 p2, .int .i64 q2, .int .i64 r2, .int .i64 t2]
          have Y25 := Y21.kept (setRow_by _ b15 #[.pointer (some ⟨m2, 0, none⟩), .int .i64 ax2, .int .i64 ay2, .int .i64 s2, .int .i64 al2, .int .i64 p2, .int .i64 q2, .int .i64 r2, .int .i64 t2]) (by simpa using n18)
          have Y26 := Y22.setRow #[.pointer (some ⟨m2, 0, none⟩), .int .i64 ax2, .int .i64 ay2, .int .i64 s2, .int .i64 al2, .int .i64 p2, .int .i64 q2, .int .i64 r2, .int .i64 t2]
          generalize U19.setRow b15 #[.pointer (some ⟨m2, 0, none⟩), .int .i64 ax2, .int .i64 ay2, .int .i64 s2, .int .i64 al2, .int .i64 p2, .int .i64 q2, .int .i64 r2, .int .i64 t2] = U23 at *
          refine hK9.out _ _ (SK.out _ B24) (fun _ => ?_)
          clear hK9 K9
          try simp only [Act.put, List.getElem_toArray, List.getElem_cons_succ, List.getElem_cons_zero]
          refine wpAnyH_done (by kernel_rfl) ?_ _
          have x0 := Y25.cell 0; have x1 := Y25.cell 1; have x2 := Y25.cell 2; have x3 := Y25.cell 3; have x4 := Y25.cell 4; have x5 := Y25.cell 5; have x6 := Y25.cell 6; have x7 := Y25.cell 7; have x8 := Y25.cell 8; have xf := Y25.free 0
          have z0 := Y26.cell 0; have z1 := Y26.cell 1; have z2 := Y26.cell 2; have z3 := Y26.cell 3; have z4 := Y26.cell 4; have z5 := Y26.cell 5; have z6 := Y26.cell 6; have z7 := Y26.cell 7; have z8 := Y26.cell 8; have zf := Y26.free 0
          clear SK cL1 cL2
          have eP := eqNil
          have hne56 := n18
          have hne65 := Ne.symm hne56
          go_wp2
          all_goals
            go_ret
            refine ⟨?_, hg.trans ((Bl.st1 (p := ⟨b15, 0, none⟩) (Bl.st1 (p := ⟨b3, 0, none⟩) B24 hs5 _) hs6 _))⟩
            show Ending.returned (Value.bool _) = _
            rw [hrv.out]
            congr 2
            simp [*]
        · go_simp
          have B10 : Bl V2 _ := Bl.alloc B7 (.cells #[.pointer none, .int .i64 0, .int .i64 0, .int .i64 0, .int .i64 0, .int .i64 0, .int .i64 0, .int .i64 0, .int .i64 0] 65)
          have Y12 := Y8.alloc (.cells #[.pointer none, .int .i64 0, .int .i64 0, .int .i64 0, .int .i64 0, .int .i64 0, .int .i64 0, .int .i64 0, .int .i64 0] 65)
          have Y13 := At.new U5 #[.pointer none, .int .i64 0, .int .i64 0, .int .i64 0, .int .i64 0, .int .i64 0, .int .i64 0, .int .i64 0, .int .i64 0] 65
          have n14 : b3 ≠ U5.heap.size := Nat.ne_of_lt Y8.lt
          have hs6 : V2.heap.size ≤ U5.heap.size := Bl.size B7
          generalize U5.alloc (.cells #[.pointer none, .int .i64 0, .int .i64 0, .int .i64 0, .int .i64 0, .int .i64 0, .int .i64 0, .int .i64 0, .int .i64 0] 65) = U9 at *
          generalize U5.heap.size = b11 at *
          refine hK9.out _ _ (SK.out _ B10) (fun _ => ?_)
          clear hK9 K9
          try simp only [Act.put, List.setIfInBounds_toArray, List.set_cons_zero, List.set_cons_succ, List.getElem_toArray, List.getElem_cons_succ, List.getElem_cons_zero]
          refine wpAnyH_ready (rs := [3]) (by kernel_rfl) (by simp) (AllReadyH.cons rfl (fun K9 hK9 => ?_) AllReadyH.nil)
          go_simp
          refine (cL2.out _).mono ?_
          rintro e U15 ⟨rfl, g16⟩
          have B17 : Bl V2 U15 := Bl.gr B10 g16
          have Y18 := Y12.gr g16
          have Y19 := Y13.gr g16
          refine hK9.out _ _ (SK.out _ B17) (fun _ => ?_)
          clear hK9 K9
          try simp only [Act.put, List.setIfInBounds_toArray, List.set_cons_zero, List.set_cons_succ, List.getElem_toArray, List.getElem_cons_succ, List.getElem_cons_zero]
          refine wpAnyH_ready (rs := [6]) (by kernel_rfl) (by simp) (AllReadyH.cons rfl (fun K9 hK9 => ?_) AllReadyH.nil)
          refine step_store_row rfl 65 _ _ rfl b3 #[.pointer (some ⟨m1, 0, none⟩), .int .i64 ax1, .int .i64 ay1, .int .i64 s1, .int .i64 al1, .int .i64 p1, .int .i64 q1, .int .i64 r1, .int .i64 t1] rfl rfl _ _ Y18 (by kernel_rfl) rfl (by simp [Value.oneCell']) ?_
          have B21 : Bl V2 _ := Bl.srow B17 hs5 #[.pointer (some ⟨m1, 0, none⟩), .int .i64 ax1, .int .i64 ay1, .int .i64 s1, .int .i64 al1, .int .i64 p1, .int .i64 q1, .int .i64 r1, .int .i64 t1]
          have Y22 := Y18.setRow #[.pointer (some ⟨m1, 0, none⟩), .int .i64 ax1, .int .i64 ay1, .int .i64 s1, .int .i64 al1, .int .i64 p1, .int .i64 q1, .int .i64 r1, .int .i64 t1]
          have Y23 := Y19.kept (setRow_by _ b3 #[.pointer (some ⟨m1, 0, none⟩), .int .i64 ax1, .int .i64 ay1, .int .i64 s1, .int .i64 al1, .int .i64 p1, .int .i64 q1, .int .i64 r1, .int .i64 t1]) (by simpa using (Ne.symm n14))
          generalize U15.setRow b3 #[.pointer (some ⟨m1, 0, none⟩), .int .i64 ax1, .int .i64 ay1, .int .i64 s1, .int .i64 al1, .int .i64 p1, .int .i64 q1, .int .i64 r1, .int .i64 t1] = U20 at *
          refine hK9.out _ _ (SK.out _ B21) (fun _ => ?_)
          clear hK9 K9
          try simp only [Act.put, List.getElem_toArray, List.getElem_cons_succ, List.getElem_cons_zero]
          refine wpAnyH_ready (rs := [7]) (by kernel_rfl) (by simp) (AllReadyH.cons rfl (fun K9 hK9 => ?_) AllReadyH.nil)
          refine step_store_row rfl 65 _ _ rfl b11 #[.pointer (some ⟨m2, 0, none⟩), .int .i64 ax2, .int .i64 ay2, .int .i64 s2, .int .i64 al2, .int .i64 p2, .int .i64 q2, .int .i64 r2, .int .i64 t2] rfl rfl _ _ Y23 (by kernel_rfl) rfl (by simp [Value.oneCell']) ?_
          have B25 : Bl V2 _ := Bl.srow B21 hs6 #[.pointer (some ⟨m2, 0, none⟩), .int .i64 ax2, .int .i64 ay2, .int .i64 s2, .int .i64 al2, .int .i64 p2, .int .i64 q2, .int .i64 r2, .int .i64 t2]
          have Y26 := Y22.kept (setRow_by _ b11 #[.pointer (some ⟨m2, 0, none⟩), .int .i64 ax2, .int .i64 ay2, .int .i64 s2, .int .i64 al2, .int .i64 p2, .int .i64 q2, .int .i64 r2, .int .i64 t2]) (by simpa using n14)
          have Y27 := Y23.setRow #[.pointer (some ⟨m2, 0, none⟩), .int .i64 ax2, .int .i64 ay2, .int .i64 s2, .int .i64 al2, .int .i64 p2, .int .i64 q2, .int .i64 r2, .int .i64 t2]
          generalize U20.setRow b11 #[.pointer (some ⟨m2, 0, none⟩), .int .i64 ax2, .int .i64 ay2, .int .i64 s2, .int .i64 al2, .int .i64 p2, .int .i64 q2, .int .i64 r2, .int .i64 t2] = U24 at *
          refine hK9.out _ _ (SK.out _ B25) (fun _ => ?_)
          clear hK9 K9
          try simp only [Act.put, List.getElem_toArray, List.getElem_cons_succ, List.getElem_cons_zero]
          refine wpAnyH_done (by kernel_rfl) ?_ _
          have x0 := Y26.cell 0; have x1 := Y26.cell 1; have x2 := Y26.cell 2; have x3 := Y26.cell 3; have x4 := Y26.cell 4; have x5 := Y26.cell 5; have x6 := Y26.cell 6; have x7 := Y26.cell 7; have x8 := Y26.cell 8; have xf := Y26.free 0
          have z0 := Y27.cell 0; have z1 := Y27.cell 1; have z2 := Y27.cell 2; have z3 := Y27.cell 3; have z4 := Y27.cell 4; have z5 := Y27.cell 5; have z6 := Y27.cell 6; have z7 := Y27.cell 7; have z8 := Y27.cell 8; have zf := Y27.free 0
          clear SK cL1 cL2
          have eP := eqNil
          have hne56 := n14
          have hne65 := Ne.symm hne56
          go_wp2
          all_goals
            go_ret
            refine ⟨?_, hg.trans ((Bl.st1 (p := ⟨b11, 0, none⟩) (Bl.st1 (p := ⟨b3, 0, none⟩) B25 hs5 _) hs6 _))⟩
            show Ending.returned (Value.bool _) = _
            rw [hrv.out]
            congr 2
            simp [*]
      · go_simp
        have B6 : Bl V2 _ := Bl.alloc B2 (.cells #[.pointer none, .int .i64 0, .int .i64 0, .int .i64 0, .int .i64 0, .int .i64 0, .int .i64 0, .int .i64 0, .int .i64 0] 65)
        have Y8 := Y4.alloc (.cells #[.pointer none, .int .i64 0, .int .i64 0, .int .i64 0, .int .i64 0, .int .i64 0, .int .i64 0, .int .i64 0, .int .i64 0] 65)
        have Y9 := At.new U1 #[.pointer none, .int .i64 0, .int .i64 0, .int .i64 0, .int .i64 0, .int .i64 0, .int .i64 0, .int .i64 0, .int .i64 0] 65
        have n10 : b3 ≠ U1.heap.size := Nat.ne_of_lt Y4.lt
        have hs6 : V2.heap.size ≤ U1.heap.size := Bl.size B2
        generalize U1.alloc (.cells #[.pointer none, .int .i64 0, .int .i64 0, .int .i64 0, .int .i64 0, .int .i64 0, .int .i64 0, .int .i64 0, .int .i64 0] 65) = U5 at *
        generalize U1.heap.size = b7 at *
        refine hK9.out _ _ (SK.out _ B6) (fun _ => ?_)
        clear hK9 K9
        try simp only [Act.put, List.setIfInBounds_toArray, List.set_cons_zero, List.set_cons_succ, List.getElem_toArray, List.getElem_cons_succ, List.getElem_cons_zero]
        refine wpAnyH_ready (rs := [1]) (by kernel_rfl) (by simp) (AllReadyH.cons rfl (fun K9 hK9 => ?_) AllReadyH.nil)
        go_simp
        refine (cL1.out _).mono ?_
        rintro e U11 ⟨rfl, g12⟩
        have B13 : Bl V2 U11 := Bl.gr B6 g12
        have Y14 := Y8.gr g12
        have Y15 := Y9.gr g12
        refine hK9.out _ _ (SK.out _ B13) (fun _ => ?_)
        clear hK9 K9
        try simp only [Act.put, List.setIfInBounds_toArray, List.set_cons_zero, List.set_cons_succ, List.getElem_toArray, List.getElem_cons_succ, List.getElem_cons_zero]
        refine wpAnyH_ready (rs := [3]) (by kernel_rfl) (by simp) (AllReadyH.cons rfl (fun K9 hK9 => ?_) AllReadyH.nil)
        go_simp
        refine (cL2.out _).mono ?_
        rintro e U16 ⟨rfl, g17⟩
        have B18 : Bl V2 U16 := Bl.gr B13 g17
        have Y19 := Y14.gr g17
        have Y20 := Y15.gr g17
        refine hK9.out _ _ (SK.out _ B18) (fun _ => ?_)
        clear hK9 K9
        try simp only [Act.put, List.setIfInBounds_toArray, List.set_cons_zero, List.set_cons_succ, List.getElem_toArray, List.getElem_cons_succ, List.getElem_cons_zero]
        refine wpAnyH_ready (rs := [6]) (by kernel_rfl) (by simp) (AllReadyH.cons rfl (fun K9 hK9 => ?_) AllReadyH.nil)
        refine step_store_row rfl 65 _ _ rfl b3 #[.pointer (some ⟨m1, 0, none⟩), .int .i64 ax1, .int .i64 ay1, .int .i64 s1, .int .i64 al1, .int .i64 p1, .int .i64 q1, .int .i64 r1, .int .i64 t1] rfl rfl _ _ Y19 (by kernel_rfl) rfl (by simp [Value.oneCell']) ?_
        have B22 : Bl V2 _ := Bl.srow B18 hs5 #[.pointer (some ⟨m1, 0, none⟩), .int .i64 ax1, .int .i64 ay1, .int .i64 s1, .int .i64 al1, .int .i64 p1, .int .i64 q1, .int .i64 r1, .int .i64 t1]
        have Y23 := Y19.setRow #[.pointer (some ⟨m1, 0, none⟩), .int .i64 ax1, .int .i64 ay1, .int .i64 s1, .int .i64 al1, .int .i64 p1, .int .i64 q1, .int .i64 r1, .int .i64 t1]
        have Y24 := Y20.kept (setRow_by _ b3 #[.pointer (some ⟨m1, 0, none⟩), .int .i64 ax1, .int .i64 ay1, .int .i64 s1, .int .i64 al1, .int .i64 p1, .int .i64 q1, .int .i64 r1, .int .i64 t1]) (by simpa using (Ne.symm n10))
        generalize U16.setRow b3 #[.pointer (some ⟨m1, 0, none⟩), .int .i64 ax1, .int .i64 ay1, .int .i64 s1, .int .i64 al1, .int .i64 p1, .int .i64 q1, .int .i64 r1, .int .i64 t1] = U21 at *
        refine hK9.out _ _ (SK.out _ B22) (fun _ => ?_)
        clear hK9 K9
        try simp only [Act.put, List.getElem_toArray, List.getElem_cons_succ, List.getElem_cons_zero]
        refine wpAnyH_ready (rs := [7]) (by kernel_rfl) (by simp) (AllReadyH.cons rfl (fun K9 hK9 => ?_) AllReadyH.nil)
        refine step_store_row rfl 65 _ _ rfl b7 #[.pointer (some ⟨m2, 0, none⟩), .int .i64 ax2, .int .i64 ay2, .int .i64 s2, .int .i64 al2, .int .i64 p2, .int .i64 q2, .int .i64 r2, .int .i64 t2] rfl rfl _ _ Y24 (by kernel_rfl) rfl (by simp [Value.oneCell']) ?_
        have B26 : Bl V2 _ := Bl.srow B22 hs6 #[.pointer (some ⟨m2, 0, none⟩), .int .i64 ax2, .int .i64 ay2, .int .i64 s2, .int .i64 al2, .int .i64 p2, .int .i64 q2, .int .i64 r2, .int .i64 t2]
        have Y27 := Y23.kept (setRow_by _ b7 #[.pointer (some ⟨m2, 0, none⟩), .int .i64 ax2, .int .i64 ay2, .int .i64 s2, .int .i64 al2, .int .i64 p2, .int .i64 q2, .int .i64 r2, .int .i64 t2]) (by simpa using n10)
        have Y28 := Y24.setRow #[.pointer (some ⟨m2, 0, none⟩), .int .i64 ax2, .int .i64 ay2, .int .i64 s2, .int .i64 al2, .int .i64 p2, .int .i64 q2, .int .i64 r2, .int .i64 t2]
        generalize U21.setRow b7 #[.pointer (some ⟨m2, 0, none⟩), .int .i64 ax2, .int .i64 ay2, .int .i64 s2, .int .i64 al2, .int .i64 p2, .int .i64 q2, .int .i64 r2, .int .i64 t2] = U25 at *
        refine hK9.out _ _ (SK.out _ B26) (fun _ => ?_)
        clear hK9 K9
        try simp only [Act.put, List.getElem_toArray, List.getElem_cons_succ, List.getElem_cons_zero]
        refine wpAnyH_done (by kernel_rfl) ?_ _
        have x0 := Y27.cell 0; have x1 := Y27.cell 1; have x2 := Y27.cell 2; have x3 := Y27.cell 3; have x4 := Y27.cell 4; have x5 := Y27.cell 5; have x6 := Y27.cell 6; have x7 := Y27.cell 7; have x8 := Y27.cell 8; have xf := Y27.free 0
        have z0 := Y28.cell 0; have z1 := Y28.cell 1; have z2 := Y28.cell 2; have z3 := Y28.cell 3; have z4 := Y28.cell 4; have z5 := Y28.cell 5; have z6 := Y28.cell 6; have z7 := Y28.cell 7; have z8 := Y28.cell 8; have zf := Y28.free 0
        clear SK cL1 cL2
        have eP := eqNil
        have hne56 := n10
        have hne65 := Ne.symm hne56
        go_wp2
        all_goals
          go_ret
          refine ⟨?_, hg.trans ((Bl.st1 (p := ⟨b7, 0, none⟩) (Bl.st1 (p := ⟨b3, 0, none⟩) B26 hs5 _) hs6 _))⟩
          show Ending.returned (Value.bool _) = _
          rw [hrv.out]
          congr 2
          simp [*]
    · go_simp
      have B2 : Bl V2 _ := Bl.alloc B0 (.cells #[.pointer none, .int .i64 0, .int .i64 0, .int .i64 0, .int .i64 0, .int .i64 0, .int .i64 0, .int .i64 0, .int .i64 0] 65)
      have Y4 := At.new U0 #[.pointer none, .int .i64 0, .int .i64 0, .int .i64 0, .int .i64 0, .int .i64 0, .int .i64 0, .int .i64 0, .int .i64 0] 65
      have hs6 : V2.heap.size ≤ U0.heap.size := Bl.size B0
      generalize U0.alloc (.cells #[.pointer none, .int .i64 0, .int .i64 0, .int .i64 0, .int .i64 0, .int .i64 0, .int .i64 0, .int .i64 0, .int .i64 0] 65) = U1 at *
      generalize U0.heap.size = b3 at *
      refine hK9.out _ _ (SK.out _ B2) (fun _ => ?_)
      clear hK9 K9
      try simp only [Act.put, List.setIfInBounds_toArray, List.set_cons_zero, List.set_cons_succ, List.getElem_toArray, List.getElem_cons_succ, List.getElem_cons_zero]
      refine wpAnyH_ready (rs := [1, 4]) (by kernel_rfl) (by simp) (AllReadyH.cons rfl (fun K9 hK9 => ?_) (AllReadyH.cons rfl (fun K9 hK9 => ?_) AllReadyH.nil))
      · go_simp
        refine (cL1.out _).mono ?_
        rintro e U5 ⟨rfl, g6⟩
        have B7 : Bl V2 U5 := Bl.gr B2 g6
        have Y8 := Y4.gr g6
        refine hK9.out _ _ (SK.out _ B7) (fun _ => ?_)
        clear hK9 K9
        try simp only [Act.put, List.setIfInBounds_toArray, List.set_cons_zero, List.set_cons_succ, List.getElem_toArray, List.getElem_cons_succ, List.getElem_cons_zero]
        refine wpAnyH_ready (rs := [3, 4]) (by kernel_rfl) (by simp) (AllReadyH.cons rfl (fun K9 hK9 => ?_) (AllReadyH.cons rfl (fun K9 hK9 => ?_) AllReadyH.nil))
        · go_simp
          refine (cL2.out _).mono ?_
          rintro e U9 ⟨rfl, g10⟩
          have B11 : Bl V2 U9 := Bl.gr B7 g10
          have Y12 := Y8.gr g10
          refine hK9.out _ _ (SK.out _ B11) (fun _ => ?_)
          clear hK9 K9
          try simp only [Act.put, List.setIfInBounds_toArray, List.set_cons_zero, List.set_cons_succ, List.getElem_toArray, List.getElem_cons_succ, List.getElem_cons_zero]
          refine wpAnyH_ready (rs := [4]) (by kernel_rfl) (by simp) (AllReadyH.cons rfl (fun K9 hK9 => ?_) AllReadyH.nil)
          go_simp
          have B14 : Bl V2 _ := Bl.alloc B11 (.cells #[.pointer none, .int .i64 0, .int .i64 0, .int .i64 0, .int .i64 0, .int .i64 0, .int .i64 0, .int .i64 0, .int .i64 0] 65)
          have Y16 := Y12.alloc (.cells #[.pointer none, .int .i64 0, .int .i64 0, .int .i64 0, .int .i64 0, .int .i64 0, .int .i64 0, .int .i64 0, .int .i64 0] 65)
          have Y17 := At.new U9 #[.pointer none, .int .i64 0, .int .i64 0, .int .i64 0, .int .i64 0, .int .i64 0, .int .i64 0, .int .i64 0, .int .i64 0] 65
          have n18 : b3 ≠ U9.heap.size := Nat.ne_of_lt Y12.lt
          have hs5 : V2.heap.size ≤ U9.heap.size := Bl.size B11
          generalize U9.alloc (.cells #[.pointer none, .int .i64 0, .int .i64 0, .int .i64 0, .int .i64 0, .int .i64 0, .int .i64 0, .int .i64 0, .int .i64 0] 65) = U13 at *
          generalize U9.heap.size = b15 at *
          refine hK9.out _ _ (SK.out _ B14) (fun _ => ?_)
          clear hK9 K9
          try simp only [Act.put, List.setIfInBounds_toArray, List.set_cons_zero, List.set_cons_succ, List.getElem_toArray, List.getElem_cons_succ, List.getElem_cons_zero]
          refine wpAnyH_ready (rs := [6]) (by kernel_rfl) (by simp) (AllReadyH.cons rfl (fun K9 hK9 => ?_) AllReadyH.nil)
          refine step_store_row rfl 65 _ _ rfl b15 #[.pointer (some ⟨m1, 0, none⟩), .int .i64 ax1, .int .i64 ay1, .int .i64 s1, .int .i64 al1, .int .i64 p1, .int .i64 q1, .int .i64 r1, .int .i64 t1] rfl rfl _ _ Y17 (by kernel_rfl) rfl (by simp [Value.oneCell']) ?_
          have B20 : Bl V2 _ := Bl.srow B14 hs5 #[.pointer (some ⟨m1, 0, none⟩), .int .i64 ax1, .int .i64 ay1, .int .i64 s1, .int .i64 al1, .int .i64 p1, .int .i64 q1, .int .i64 r1, .int .i64 t1]
          have Y21 := Y16.kept (setRow_by _ b15 #[.pointer (some ⟨m1, 0, none⟩), .int .i64 ax1, .int .i64 ay1, .int .i64 s1, .int .i64 al1, .int .i64 p1, .int .i64 q1, .int .i64 r1, .int .i64 t1]) (by simpa using n18)
          have Y22 := Y17.setRow #[.pointer (some ⟨m1, 0, none⟩), .int .i64 ax1, .int .i64 ay1, .int .i64 s1, .int .i64 al1, .int .i64 p1, .int .i64 q1, .int .i64 r1, .int .i64 t1]
          generalize U13.setRow b15 #[.pointer (some ⟨m1, 0, none⟩), .int .i64 ax1, .int .i64 ay1, .int .i64 s1, .int .i64 al1, .int .i64 p1, .int .i64 q1, .int .i64 r1, .int .i64 t1] = U19 at *
          refine hK9.out _ _ (SK.out _ B20) (fun _ => ?_)
          clear hK9 K9
          try simp only [Act.put, List.getElem_toArray, List.getElem_cons_succ, List.getElem_cons_zero]
          refine wpAnyH_ready (rs := [7]) (by kernel_rfl) (by simp) (AllReadyH.cons rfl (fun K9 hK9 => ?_) AllReadyH.nil)
          refine step_store_row rfl 65 _ _ rfl b3 #[.pointer (some ⟨m2, 0, none⟩), .int .i64 ax2, .int .i64 ay2, .int .i64 s2, .int .i64 al2, .int .i64 p2, .int .i64 q2, .int .i64 r2, .int .i64 t2] rfl rfl _ _ Y21 (by kernel_rfl) rfl (by simp [Value.oneCell']) ?_
          have B24 : Bl V2 _ := Bl.srow B20 hs6 #[.pointer (some ⟨m2, 0, none⟩), .int .i64 ax2, .int .i64 ay2, .int .i64 s2, .int .i64 al2, .int .i64 p2, .int .i64 q2, .int .i64 r2, .int .i64 t2]
          have Y25 := Y21.setRow #[.pointer (some ⟨m2, 0, none⟩), .int .i64 ax2, .int .i64 ay2, .int .i64 s2, .int .i64 al2, .int .i64 p2, .int .i64 q2, .int .i64 r2, .int .i64 t2]
          have Y26 := Y22.kept (setRow_by _ b3 #[.pointer (some ⟨m2, 0, none⟩), .int .i64 ax2, .int .i64 ay2, .int .i64 s2, .int .i64 al2, .int .i64 p2, .int .i64 q2, .int .i64 r2, .int .i64 t2]) (by simpa using (Ne.symm n18))
          generalize U19.setRow b3 #[.pointer (some ⟨m2, 0, none⟩), .int .i64 ax2, .int .i64 ay2, .int .i64 s2, .int .i64 al2, .int .i64 p2, .int .i64 q2, .int .i64 r2, .int .i64 t2] = U23 at *
          refine hK9.out _ _ (SK.out _ B24) (fun _ => ?_)
          clear hK9 K9
          try simp only [Act.put, List.getElem_toArray, List.getElem_cons_succ, List.getElem_cons_zero]
          refine wpAnyH_done (by kernel_rfl) ?_ _
          have x0 := Y26.cell 0; have x1 := Y26.cell 1; have x2 := Y26.cell 2; have x3 := Y26.cell 3; have x4 := Y26.cell 4; have x5 := Y26.cell 5; have x6 := Y26.cell 6; have x7 := Y26.cell 7; have x8 := Y26.cell 8; have xf := Y26.free 0
          have z0 := Y25.cell 0; have z1 := Y25.cell 1; have z2 := Y25.cell 2; have z3 := Y25.cell 3; have z4 := Y25.cell 4; have z5 := Y25.cell 5; have z6 := Y25.cell 6; have z7 := Y25.cell 7; have z8 := Y25.cell 8; have zf := Y25.free 0
          clear SK cL1 cL2
          have eP := eqNil
          have hne56 := (Ne.symm n18)
          have hne65 := Ne.symm hne56
          go_wp2
          all_goals
            go_ret
            refine ⟨?_, hg.trans ((Bl.st1 (p := ⟨b3, 0, none⟩) (Bl.st1 (p := ⟨b15, 0, none⟩) B24 hs5 _) hs6 _))⟩
            show Ending.returned (Value.bool _) = _
            rw [hrv.out]
            congr 2
            simp [*]
        · go_simp
          have B10 : Bl V2 _ := Bl.alloc B7 (.cells #[.pointer none, .int .i64 0, .int .i64 0, .int .i64 0, .int .i64 0, .int .i64 0, .int .i64 0, .int .i64 0, .int .i64 0] 65)
          have Y12 := Y8.alloc (.cells #[.pointer none, .int .i64 0, .int .i64 0, .int .i64 0, .int .i64 0, .int .i64 0, .int .i64 0, .int .i64 0, .int .i64 0] 65)
          have Y13 := At.new U5 #[.pointer none, .int .i64 0, .int .i64 0, .int .i64 0, .int .i64 0, .int .i64 0, .int .i64 0, .int .i64 0, .int .i64 0] 65
          have n14 : b3 ≠ U5.heap.size := Nat.ne_of_lt Y8.lt
          have hs5 : V2.heap.size ≤ U5.heap.size := Bl.size B7
          generalize U5.alloc (.cells #[.pointer none, .int .i64 0, .int .i64 0, .int .i64 0, .int .i64 0, .int .i64 0, .int .i64 0, .int .i64 0, .int .i64 0] 65) = U9 at *
          generalize U5.heap.size = b11 at *
          refine hK9.out _ _ (SK.out _ B10) (fun _ => ?_)
          clear hK9 K9
          try simp only [Act.put, List.setIfInBounds_toArray, List.set_cons_zero, List.set_cons_succ, List.getElem_toArray, List.getElem_cons_succ, List.getElem_cons_zero]
          refine wpAnyH_ready (rs := [3]) (by kernel_rfl) (by simp) (AllReadyH.cons rfl (fun K9 hK9 => ?_) AllReadyH.nil)
          go_simp
          refine (cL2.out _).mono ?_
          rintro e U15 ⟨rfl, g16⟩
          have B17 : Bl V2 U15 := Bl.gr B10 g16
          have Y18 := Y12.gr g16
          have Y19 := Y13.gr g16
          refine hK9.out _ _ (SK.out _ B17) (fun _ => ?_)
          clear hK9 K9
          try simp only [Act.put, List.setIfInBounds_toArray, List.set_cons_zero, List.set_cons_succ, List.getElem_toArray, List.getElem_cons_succ, List.getElem_cons_zero]
          refine wpAnyH_ready (rs := [6]) (by kernel_rfl) (by simp) (AllReadyH.cons rfl (fun K9 hK9 => ?_) AllReadyH.nil)
          refine step_store_row rfl 65 _ _ rfl b11 #[.pointer (some ⟨m1, 0, none⟩), .int .i64 ax1, .int .i64 ay1, .int .i64 s1, .int .i64 al1, .int .i64 p1, .int .i64 q1, .int .i64 r1, .int .i64 t1] rfl rfl _ _ Y19 (by kernel_rfl) rfl (by simp [Value.oneCell']) ?_
          have B21 : Bl V2 _ := Bl.srow B17 hs5 #[.pointer (some ⟨m1, 0, none⟩), .int .i64 ax1, .int .i64 ay1, .int .i64 s1, .int .i64 al1, .int .i64 p1, .int .i64 q1, .int .i64 r1, .int .i64 t1]
          have Y22 := Y18.kept (setRow_by _ b11 #[.pointer (some ⟨m1, 0, none⟩), .int .i64 ax1, .int .i64 ay1, .int .i64 s1, .int .i64 al1, .int .i64 p1, .int .i64 q1, .int .i64 r1, .int .i64 t1]) (by simpa using n14)
          have Y23 := Y19.setRow #[.pointer (some ⟨m1, 0, none⟩), .int .i64 ax1, .int .i64 ay1, .int .i64 s1, .int .i64 al1, .int .i64 p1, .int .i64 q1, .int .i64 r1, .int .i64 t1]
          generalize U15.setRow b11 #[.pointer (some ⟨m1, 0, none⟩), .int .i64 ax1, .int .i64 ay1, .int .i64 s1, .int .i64 al1, .int .i64 p1, .int .i64 q1, .int .i64 r1, .int .i64 t1] = U20 at *
          refine hK9.out _ _ (SK.out _ B21) (fun _ => ?_)
          clear hK9 K9
          try simp only [Act.put, List.getElem_toArray, List.getElem_cons_succ, List.getElem_cons_zero]
          refine wpAnyH_ready (rs := [7]) (by kernel_rfl) (by simp) (AllReadyH.cons rfl (fun K9 hK9 => ?_) AllReadyH.nil)
          refine step_store_row rfl 65 _ _ rfl b3 #[.pointer (some ⟨m2, 0, none⟩), .int .i64 ax2, .int .i64 ay2, .int .i64 s2, .int .i64 al2, .int .i64 p2, .int .i64 q2, .int .i64 r2, .int .i64 t2] rfl rfl _ _ Y22 (by kernel_rfl) rfl (by simp [Value.oneCell']) ?_
          have B25 : Bl V2 _ := Bl.srow B21 hs6 #[.pointer (some ⟨m2, 0, none⟩), .int .i64 ax2, .int .i64 ay2, .int .i64 s2, .int .i64 al2, .int .i64 p2, .int .i64 q2, .int .i64 r2, .int .i64 t2]
          have Y26 := Y22.setRow #[.pointer (some ⟨m2, 0, none⟩), .int .i64 ax2, .int .i64 ay2, .int .i64 s2, .int .i64 al2, .int .i64 p2, .int .i64 q2, .int .i64 r2, .int .i64 t2]
          have Y27 := Y23.kept (setRow_by _ b3 #[.pointer (some ⟨m2, 0, none⟩), .int .i64 ax2, .int .i64 ay2, .int .i64 s2, .int .i64 al2, .int .i64 p2, .int .i64 q2, .int .i64 r2, .int .i64 t2]) (by simpa using (Ne.symm n14))
          generalize U20.setRow b3 #[.pointer (some ⟨m2, 0, none⟩), .int .i64 ax2, .int .i64 ay2, .int .i64 s2, .int .i64 al2, .int .i64 p2, .int .i64 q2, .int .i64 r2, .int .i64 t2] = U24 at *
          refine hK9.out _ _ (SK.out _ B25) (fun _ => ?_)
          clear hK9 K9
          try simp only [Act.put, List.getElem_toArray, List.getElem_cons_succ, List.getElem_cons_zero]
          refine wpAnyH_done (by kernel_rfl) ?_ _
          have x0 := Y27.cell 0; have x1 := Y27.cell 1; have x2 := Y27.cell 2; have x3 := Y27.cell 3; have x4 := Y27.cell 4; have x5 := Y27.cell 5; have x6 := Y27.cell 6; have x7 := Y27.cell 7; have x8 := Y27.cell 8; have xf := Y27.free 0
          have z0 := Y26.cell 0; have z1 := Y26.cell 1; have z2 := Y26.cell 2; have z3 := Y26.cell 3; have z4 := Y26.cell 4; have z5 := Y26.cell 5; have z6 := Y26.cell 6; have z7 := Y26.cell 7; have z8 := Y26.cell 8; have zf := Y26.free 0
          clear SK cL1 cL2
          have eP := eqNil
          have hne56 := (Ne.symm n14)
          have hne65 := Ne.symm hne56
          go_wp2
          all_goals
            go_ret
            refine ⟨?_, hg.trans ((Bl.st1 (p := ⟨b3, 0, none⟩) (Bl.st1 (p := ⟨b11, 0, none⟩) B25 hs5 _) hs6 _))⟩
            show Ending.returned (Value.bool _) = _
            rw [hrv.out]
            congr 2
            simp [*]
      · go_simp
        have B6 : Bl V2 _ := Bl.alloc B2 (.cells #[.pointer none, .int .i64 0, .int .i64 0, .int .i64 0, .int .i64 0, .int .i64 0, .int .i64 0, .int .i64 0, .int .i64 0] 65)
        have Y8 := Y4.alloc (.cells #[.pointer none, .int .i64 0, .int .i64 0, .int .i64 0, .int .i64 0, .int .i64 0, .int .i64 0, .int .i64 0, .int .i64 0] 65)
        have Y9 := At.new U1 #[.pointer none, .int .i64 0, .int .i64 0, .int .i64 0, .int .i64 0, .int .i64 0, .int .i64 0, .int .i64 0, .int .i64 0] 65
        have n10 : b3 ≠ U1.heap.size := Nat.ne_of_lt Y4.lt
        have hs5 : V2.heap.size ≤ U1.heap.size := Bl.size B2
        generalize U1.alloc (.cells #[.pointer none, .int .i64 0, .int .i64 0, .int .i64 0, .int .i64 0, .int .i64 0, .int .i64 0, .int .i64 0, .int .i64 0] 65) = U5 at *
        generalize U1.heap.size = b7 at *
        refine hK9.out _ _ (SK.out _ B6) (fun _ => ?_)
        clear hK9 K9
        try simp only [Act.put, List.setIfInBounds_toArray, List.set_cons_zero, List.set_cons_succ, List.getElem_toArray, List.getElem_cons_succ, List.getElem_cons_zero]
        refine wpAnyH_ready (rs := [1]) (by kernel_rfl) (by simp) (AllReadyH.cons rfl (fun K9 hK9 => ?_) AllReadyH.nil)
        go_simp
        refine (cL1.out _).mono ?_
        rintro e U11 ⟨rfl, g12⟩
        have B13 : Bl V2 U11 := Bl.gr B6 g12
        have Y14 := Y8.gr g12
        have Y15 := Y9.gr g12
        refine hK9.out _ _ (SK.out _ B13) (fun _ => ?_)
        clear hK9 K9
        try simp only [Act.put, List.setIfInBounds_toArray, List.set_cons_zero, List.set_cons_succ, List.getElem_toArray, List.getElem_cons_succ, List.getElem_cons_zero]
        refine wpAnyH_ready (rs := [3]) (by kernel_rfl) (by simp) (AllReadyH.cons rfl (fun K9 hK9 => ?_) AllReadyH.nil)
        go_simp
        refine (cL2.out _).mono ?_
        rintro e U16 ⟨rfl, g17⟩
        have B18 : Bl V2 U16 := Bl.gr B13 g17
        have Y19 := Y14.gr g17
        have Y20 := Y15.gr g17
        refine hK9.out _ _ (SK.out _ B18) (fun _ => ?_)
        clear hK9 K9
        try simp only [Act.put, List.setIfInBounds_toArray, List.set_cons_zero, List.set_cons_succ, List.getElem_toArray, List.getElem_cons_succ, List.getElem_cons_zero]
        refine wpAnyH_ready (rs := [6]) (by kernel_rfl) (by simp) (AllReadyH.cons rfl (fun K9 hK9 => ?_) AllReadyH.nil)
        refine step_store_row rfl 65 _ _ rfl b7 #[.pointer (some ⟨m1, 0, none⟩), .int .i64 ax1, .int .i64 ay1, .int .i64 s1, .int .i64 al1, .int .i64 p1, .int .i64 q1, .int .i64 r1, .int .i64 t1] rfl rfl _ _ Y20 (by kernel_rfl) rfl (by simp [Value.oneCell']) ?_
        have B22 : Bl V2 _ := Bl.srow B18 hs5 #[.pointer (some ⟨m1, 0, none⟩), .int .i64 ax1, .int .i64 ay1, .int .i64 s1, .int .i64 al1, .int .i64 p1, .int .i64 q1, .int .i64 r1, .int .i64 t1]
        have Y23 := Y19.kept (setRow_by _ b7 #[.pointer (some ⟨m1, 0, none⟩), .int .i64 ax1, .int .i64 ay1, .int .i64 s1, .int .i64 al1, .int .i64 p1, .int .i64 q1, .int .i64 r1, .int .i64 t1]) (by simpa using n10)
        have Y24 := Y20.setRow #[.pointer (some ⟨m1, 0, none⟩), .int .i64 ax1, .int .i64 ay1, .int .i64 s1, .int .i64 al1, .int .i64 p1, .int .i64 q1, .int .i64 r1, .int .i64 t1]
        generalize U16.setRow b7 #[.pointer (some ⟨m1, 0, none⟩), .int .i64 ax1, .int .i64 ay1, .int .i64 s1, .int .i64 al1, .int .i64 p1, .int .i64 q1, .int .i64 r1, .int .i64 t1] = U21 at *
        refine hK9.out _ _ (SK.out _ B22) (fun _ => ?_)
        clear hK9 K9
        try simp only [Act.put, List.getElem_toArray, List.getElem_cons_succ, List.getElem_cons_zero]
        refine wpAnyH_ready (rs := [7]) (by kernel_rfl) (by simp) (AllReadyH.cons rfl (fun K9 hK9 => ?_) AllReadyH.nil)
        refine step_store_row rfl 65 _ _ rfl b3 #[.pointer (some ⟨m2, 0, none⟩), .int .i64 ax2, .int .i64 ay2, .int .i64 s2, .int .i64 al2, .int .i64 p2, .int .i64 q2, .int .i64 r2, .int .i64 t2] rfl rfl _ _ Y23 (by kernel_rfl) rfl (by simp [Value.oneCell']) ?_
        have B26 : Bl V2 _ := Bl.srow B22 hs6 #[.pointer (some ⟨m2, 0, none⟩), .int .i64 ax2, .int .i64 ay2, .int .i64 s2, .int .i64 al2, .int .i64 p2, .int .i64 q2, .int .i64 r2, .int .i64 t2]
        have Y27 := Y23.setRow #[.pointer (some ⟨m2, 0, none⟩), .int .i64 ax2, .int .i64 ay2, .int .i64 s2, .int .i64 al2, .int .i64 p2, .int .i64 q2, .int .i64 r2, .int .i64 t2]
        have Y28 := Y24.kept (setRow_by _ b3 #[.pointer (some ⟨m2, 0, none⟩), .int .i64 ax2, .int .i64 ay2, .int .i64 s2, .int .i64 al2, .int .i64 p2, .int .i64 q2, .int .i64 r2, .int .i64 t2]) (by simpa using (Ne.symm n10))
        generalize U21.setRow b3 #[.pointer (some ⟨m2, 0, none⟩), .int .i64 ax2, .int .i64 ay2, .int .i64 s2, .int .i64 al2, .int .i64 p2, .int .i64 q2, .int .i64 r2, .int .i64 t2] = U25 at *
        refine hK9.out _ _ (SK.out _ B26) (fun _ => ?_)
        clear hK9 K9
        try simp only [Act.put, List.getElem_toArray, List.getElem_cons_succ, List.getElem_cons_zero]
        refine wpAnyH_done (by kernel_rfl) ?_ _
        have x0 := Y28.cell 0; have x1 := Y28.cell 1; have x2 := Y28.cell 2; have x3 := Y28.cell 3; have x4 := Y28.cell 4; have x5 := Y28.cell 5; have x6 := Y28.cell 6; have x7 := Y28.cell 7; have x8 := Y28.cell 8; have xf := Y28.free 0
        have z0 := Y27.cell 0; have z1 := Y27.cell 1; have z2 := Y27.cell 2; have z3 := Y27.cell 3; have z4 := Y27.cell 4; have z5 := Y27.cell 5; have z6 := Y27.cell 6; have z7 := Y27.cell 7; have z8 := Y27.cell 8; have zf := Y27.free 0
        clear SK cL1 cL2
        have eP := eqNil
        have hne56 := (Ne.symm n10)
        have hne65 := Ne.symm hne56
        go_wp2
        all_goals
          go_ret
          refine ⟨?_, hg.trans ((Bl.st1 (p := ⟨b3, 0, none⟩) (Bl.st1 (p := ⟨b7, 0, none⟩) B26 hs5 _) hs6 _))⟩
          show Ending.returned (Value.bool _) = _
          rw [hrv.out]
          congr 2
          simp [*]
  all_goals
    replace hrv := Lib.hid (hf.out (by omega))
    refine wp_region_quiet_grown (by kernel_rfl) (by kernel_rfl) ?_
    repeat (first | go_big_quiet_step ((go_at_call 100; first | exact Calls.grown (boxX _ (hI1.cellsG _ _)) | exact Calls.grown (boxX _ (hI2.cellsG _ _)))) | quiet_step ((go_at_call 100; first | exact Calls.grown (boxX _ (hI1.cellsG _ _)) | exact Calls.grown (boxX _ (hI2.cellsG _ _)))))
    refine wpQuiet_nil ?_
    intro V2 g8
    replace g8 : Gr _ V2 := g8
    go_wp2
    go_ret
    exact ⟨by rw [hrv.out]; rfl, G0.trans g8.bl⟩

end Go.Proofs.YtablogiielclaaaGreat
