/-
  What is proved: what span and spans of package image hand back, and what a range over spans comes to: an iterator's contract.
-/
import Derived.Test.YtackojmckloacaaIm
import Derived.RangeFuncNested
import Derived.RangeFuncBound
import Derived.RangeFuncCalls
import Derived.RangeFuncLeaves
import Derived.Shelf.Abstract
import Derived.Shelf.RegionOpen
import Derived.OwnWalkIn
import Derived.TacticsInMore
import Derived.LoopNIn
import Derived.LoopIn
namespace Go.Proofs.Ytackojmckloacaa
open Go.RowKit Go.Sort Go.Shelf

attribute [local go_sem] Oper.semAt_some

set_option maxHeartbeats 1000000 in
theorem span0 {pm pc W H n C : Nat} (w : World) (hd : At w pm #[.int .i64 W, .int .i64 H, .slice (some ⟨pc, 0, none⟩) n C] 62) (hC : n ≤ C) (hn : n = W * H) (hW : W ≤ 256) (hH : H ≤ 256) (y x0 x1 : Nat) (hy : y < H) (hx : x0 < x1) (hw : x1 ≤ W) :
    Calls Try.prog 31 #[.pointer (some ⟨pm, 0, none⟩), .int .i64 y, .int .i64 x0, .int .i64 x1] w (fun e w' => e = .returned (.slice (some ⟨pc, y * W + x0, none⟩) (x1 - x0) (C - (y * W + x0))) ∧ ∃ n, w' = w.drewN n) := by
  have hk := row_of (show x0 < W by omega) hy
  have hk2 := row_of (show x1 - 1 < W by omega) hy
  have hle := area_le hW hH
  rw [← hn] at hk hk2 hle
  have e1 : IntKind.i64.wrap ((y : Int) * (W : Int)) = ((y * W : Nat) : Int) := by rw [← Int.natCast_mul]; exact IntWalk.i64_in _ (by omega)
  have e2 : IntKind.i64.wrap (((y * W : Nat) : Int) + (x0 : Int)) = ((y * W + x0 : Nat) : Int) := by rw [← Int.natCast_add]; exact IntWalk.i64_in _ (by omega)
  have e3 : IntKind.i64.wrap (((y * W : Nat) : Int) + (x1 : Int)) = ((y * W + x1 : Nat) : Int) := by rw [← Int.natCast_add]; exact IntWalk.i64_in _ (by omega)
  have k0 : w.cell? ⟨pm, 0, none⟩ = some (.int .i64 W) := hd.cell 0
  have k2 : w.cell? ⟨pm, 2, none⟩ = some (.slice (some ⟨pc, 0, none⟩) n C) := hd.cell 2
  have h1 : y * W + x0 < y * W + x1 := by omega
  have h2 : y * W + x1 ≤ C := by omega
  have h3 : y * W + x1 - (y * W + x0) = x1 - x0 := by omega
  rw [← h3]
  clear h3 hk hk2 hn
  generalize y * W + x0 = k at *
  generalize y * W + x1 = k' at *
  generalize y * W = p at *
  clear hd
  go_enter Try.func31, Try.ntmps31
  go_wp2
  go_quiet (fail)
  go_wp2
  go_ret
  exact ⟨rfl, _, rfl⟩
theorem span1 {pm pc W H : Nat} {L : List Int} (w : World) (hI : Img w pm pc W H L) (y x0 x1 : Nat) (hy : y < H) (hx : x0 < x1) (hw : x1 ≤ W) :
    Calls Try.prog 31 #[.pointer (some ⟨pm, 0, none⟩), .int .i64 y, .int .i64 x0, .int .i64 x1] w (fun e w' => e = .returned (.slice (some ⟨pc, y * W + x0, none⟩) (x1 - x0) (L.length - (y * W + x0))) ∧ ∃ n, w' = w.drewN n) :=
  span0 w hI.hd (Nat.le_refl _) hI.len hI.w2 hI.h2 y x0 x1 hy hx hw

set_option maxHeartbeats 1000000 in
theorem spans1 (pm : Nat) (a b c d : Int) (w : World) :
    Calls Try.prog 28 #[.pointer (some ⟨pm, 0, none⟩), .agg #[.int .i64 a, .int .i64 b, .int .i64 c, .int .i64 d]] w (fun e w' => e = .returned (.func (.func 43) #[] #[.pointer (some ⟨w.heap.size + 1, 0, none⟩), .pointer (some ⟨w.heap.size, 0, none⟩)]) ∧
      w' = (w.alloc (.cells #[.pointer (some ⟨pm, 0, none⟩)] 27)).alloc (.cells #[.int .i64 a, .int .i64 b, .int .i64 c, .int .i64 d] 32)) := by
  go_enter Try.func28, Try.ntmps28
  go_wp2
  go_ret
  exact ⟨rfl, rfl⟩

/-- What a round that goes on keeps: three blocks. -/
def Keep3 (p q r : Nat) (A B : World) : Prop := B.heap[p]? = A.heap[p]? ∧ B.heap[q]? = A.heap[q]? ∧ B.heap[r]? = A.heap[r]?
theorem Keep3.refl (p q r : Nat) (A : World) : Keep3 p q r A A := ⟨rfl, rfl, rfl⟩
theorem Keep3.trans {p q r : Nat} {A B C : World} (h : Keep3 p q r A B) (k : Keep3 p q r B C) : Keep3 p q r A C := ⟨k.1.trans h.1, k.2.1.trans h.2.1, k.2.2.trans h.2.2⟩
theorem Keep3.book {p q r : Nat} {w : World} (hp : p < w.heap.size) (hq : q < w.heap.size) (hr : r < w.heap.size) (W : World) (l : Nat) (o o' : Obj) (hl : w.heap.size ≤ l) (_ : W.heap[l]? = some o) (_ : o.isCells = false) (_ : o.isWalk = false) : Keep3 p q r W (W.putObj l o') :=
  ⟨World.putObj_heap_other (by omega), World.putObj_heap_other (by omega), World.putObj_heap_other (by omega)⟩
theorem At.same {w w' : World} {b : Nat} {cs : Array Value} {t : TypeId} (h : At w b cs t) (e : w'.heap[b]? = w.heap[b]?) : At w' b cs t := by unfold At at *; rw [e]; exact h
theorem range'_succ_snoc (a k : Nat) : List.range' a (k + 1) = List.range' a k ++ [a + k] := by rw [List.range'_concat]; simp

/-- What spans tells of a row y. -/
def rowV (pc W n x0 x1 : Nat) {H : Nat} (y : Fin H) : Array Value := #[.int .i64 (y.1 : Int), .slice (some ⟨pc, y.1 * W + x0, none⟩) (x1 - x0) (n - (y.1 * W + x0))]

set_option maxRecDepth 100000 in
set_option maxHeartbeats 2000000 in
theorem spansIter (n : Nat) (hn : 1 ≤ n) (l Bm Br tm tr pm pc W H N C x0 x1 y0 y1 : Nat) (J Jx : List (Fin H) → World → Prop) (hx : y0 < y1 → x0 < x1) (hw : x1 ≤ W) (hy : y0 ≤ y1) (hh : y1 ≤ H)
    (hA : ∀ pre A B, J pre A → A.grownBy B none → J pre B)
    (hY : ∀ pre y W1, J pre W1 → pre.length < y1 - y0 → YieldAt Fence.wide (n - 1) Try.prog l (rowV pc W C x0 x1 y) W1 fun e W' =>
      (e = .returned (.bool true) ∧ J (pre ++ [y]) W' ∧ Keep3 pm Bm Br W1 W') ∨ (e = .returned (.bool false) ∧ Jx (pre ++ [y]) W'))
    (V : World) (hd : At V pm #[.int .i64 W, .int .i64 H, .slice (some ⟨pc, 0, none⟩) N C] 62) (hC : N ≤ C) (hl : N = W * H) (hW : W ≤ 256) (hH : H ≤ 256) (hbm : At V Bm #[.pointer (some ⟨pm, 0, none⟩)] tm) (hbr : At V Br #[.int .i64 x0, .int .i64 y0, .int .i64 x1, .int .i64 y1] tr) (h0 : J [] V) :
    CallsIn Fence.wide n Try.prog 43 #[.func (.yield l) #[] #[], .pointer (some ⟨Br, 0, none⟩), .pointer (some ⟨Bm, 0, none⟩)] V fun e W' => (∃ v, e = .returned v) ∧
      ((∃ ys : List (Fin H), ys.map (·.1) = List.range' y0 (y1 - y0) ∧ J ys W') ∨ (∃ pre : List (Fin H), pre.map (·.1) <+: List.range' y0 (y1 - y0) ∧ Jx pre W')) := by
  refine callsIn_of_wp Try.func43 rfl trivial ?_ rfl
  simp only [Try.ntmps43, List.size_toArray, List.length_cons, List.length_nil, Nat.reduceAdd, Nat.reduceSub, Array.replicate_succ, Array.replicate_zero, List.push_toArray, List.append_toArray, List.nil_append, List.cons_append]
  have b1 : V.cell? ⟨Br, 1, none⟩ = some (.int .i64 y0) := hbr.cell 1
  gi_wp2
  clear b1
  gi_loopw [4] (fun i wr => ∃ (y : Nat) (pre : List (Fin H)), y0 ≤ y ∧ y ≤ y1 ∧ i = .int .i64 y ∧ pre.map (·.1) = List.range' y0 (y - y0) ∧ J pre wr ∧ Keep3 pm Bm Br V wr)
    (fun i _ => y1 - (intOf i).toNat)
  case atStart => exact ⟨y0, [], Nat.le_refl _, hy, rfl, by simp, h0, Keep3.refl _ _ _ _⟩
  case round =>
    obtain ⟨y, pre, hy0, hy1, rfl, hpre, hJ, hK⟩ := hrel
    have R := hbr.same hK.2.2
    have M := hbm.same hK.2.1
    have D := hd.same hK.1
    have r0 : wr.cell? ⟨Br, 0, none⟩ = some (.int .i64 x0) := R.cell 0
    have r2 : wr.cell? ⟨Br, 2, none⟩ = some (.int .i64 x1) := R.cell 2
    have r3 : wr.cell? ⟨Br, 3, none⟩ = some (.int .i64 y1) := R.cell 3
    have m0 : wr.cell? ⟨Bm, 0, none⟩ = some (.pointer (some ⟨pm, 0, none⟩)) := M.cell 0
    have hlen : pre.length = y - y0 := by have := congrArg List.length hpre; simpa using this
    by_cases hlt : y < y1
    · have cs := span0 wr D hC hl hW hH y x0 x1 (by omega) (hx (by omega)) hw
      obtain ⟨v, hv⟩ : ∃ v, v = Value.slice (some ⟨pc, y * W + x0, none⟩) (x1 - x0) (C - (y * W + x0)) := ⟨_, rfl⟩
      have rv : rowV pc W C x0 x1 (⟨y, by omega⟩ : Fin H) = #[.int .i64 y, v] := by rw [hv]; rfl
      rw [← hv] at cs
      clear hv
      have hYY := fun q => hY pre ⟨y, by omega⟩ (wr.drewN q) (hA _ _ _ hJ ((Gr.refl wr).drewN q |>.by none)) (by omega)
      rw [rv] at hYY
      have hpre' := Lib.hid hpre
      clear hpre rv hY
      have hlen' := Lib.hid hlen
      clear hlen
      gi_wp2_with (refine ⟨trivial, ?_⟩; gi_at_call 31; refine (callsIn_wide.2 cs).mono ?_; rintro e w' ⟨rfl, q, rfl⟩; obtain ⟨fn, tmps, assign, body, hyy, hR⟩ := hYY q)
      refine hR.mono ?_
      rintro e W3 (⟨rfl, hJ3, hk3⟩ | ⟨rfl, hJx3⟩)
      · gi_wp2
        go_roundw
        case rel => exact ⟨y + 1, pre ++ [⟨y, by omega⟩], by omega, by omega, by simp, by rw [List.map_append, hpre'.out, show y + 1 - y0 = (y - y0) + 1 by omega, range'_succ_snoc]; simp; omega, hJ3, hK.trans hk3⟩
        case measure => simp [intOf]; omega
      · gi_wp2
        refine bodyPost_ret (results_none rfl _ _ _) rfl ?_
        refine ⟨⟨_, rfl⟩, .inr ⟨pre ++ [⟨y, by omega⟩], ?_, hJx3⟩⟩
        rw [List.map_append, hpre'.out]
        refine ⟨List.range' (y + 1) (y1 - (y + 1)), ?_⟩
        rw [show y1 - y0 = (y - y0) + (1 + (y1 - (y + 1))) by omega, ← List.range'_append_1, ← List.range'_append_1]
        simp
        omega
    · obtain rfl : y = y1 := by omega
      gi_wp2
      go_end0
      exact ⟨⟨_, rfl⟩, .inl ⟨pre, hpre, hJ⟩⟩

theorem spansStops (n : Nat) (hn : 1 ≤ n) (Bm Br tm tr pm pc W H N C x0 x1 y0 y1 : Nat) (hx : y0 < y1 → x0 < x1) (hw : x1 ≤ W) (hy : y0 ≤ y1) (hh : y1 ≤ H)
    (V : World) (hd : At V pm #[.int .i64 W, .int .i64 H, .slice (some ⟨pc, 0, none⟩) N C] 62) (hC : N ≤ C) (hl : N = W * H) (hW : W ≤ 256) (hH : H ≤ 256) (hbm : At V Bm #[.pointer (some ⟨pm, 0, none⟩)] tm) (hbr : At V Br #[.int .i64 x0, .int .i64 y0, .int .i64 x1, .int .i64 y1] tr) :
    SeqStopsK Fence.wide n Try.prog 43 #[.pointer (some ⟨Br, 0, none⟩), .pointer (some ⟨Bm, 0, none⟩)] (fun y : Fin H => rowV pc W C x0 x1 y) (Keep3 pm Bm Br)
      (fun ys => ys.map (·.1) = List.range' y0 (y1 - y0)) (fun pre => pre.map (·.1) <+: List.range' y0 (y1 - y0)) (y1 - y0) V := fun l J Jx W' hW' hJ _ hY h0 =>
  spansIter n hn l Bm Br tm tr pm pc W H N C x0 x1 y0 y1 J Jx hx hw hy hh (fun pre A B h hg => hJ pre A B none h hg (fun r e => by cases e)) hY W'
    (hd.same (hW'.block _ hd.lt)) hC hl hW hH (hbm.same (hW'.block _ hbm.lt)) (hbr.same (hW'.block _ hbr.lt)) h0

end Go.Proofs.Ytackojmckloacaa
