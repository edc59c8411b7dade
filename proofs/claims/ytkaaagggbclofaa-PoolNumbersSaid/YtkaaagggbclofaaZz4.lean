/-
  What is proved: what span and spans of package image hand back, and what a range over spans comes to: an iterator's contract. what Fill of package image does. what the document's example comes to, and what Fill does with a color that may not be. an argument that is a row of colors, or of bytes, reads as a list of them. No conditions. what the small calls of the document's images hand back: New, Box, At; and of build and like of the statements. what build and like of the statements do. what the document's Good hands back: an image made of any colors. what 'append' does to a row of numbers (colors, bytes) that the call owns. No conditions but a bound on the length. what the document's Fill hands back. what Solid of package image tells.
-/
import Derived.Test.YtkaaagggbclofaaZz3
import Derived.Test.YtkaaagggbclofaaZz2
import Derived.RangeFuncNested
import Derived.RangeFuncBound
import Derived.RangeFuncCalls
import Derived.RangeFuncLeaves
import Derived.Shelf.Abstract
import Derived.Shelf.RegionOpen
import Derived.OwnWalkIn
import Derived.TacticsInMore
import Derived.LoopNIn
import Derived.LoopIn
import Derived.Carry
import Derived.Deep.Slices
import Derived.Deep.Fields
import Derived.LoopTactic
import Derived.Deep.RegionHeld3
import Derived.Deep.AppendLies
import Derived.Laws.OwnMore
import Derived.OwnWalk
namespace Go.Proofs.Ytkaaagggbclofaa
open Go.RowKit Go.Sort Go.Shelf

attribute [local go_sem] Oper.semAt_some

set_option maxHeartbeats 1000000 in
theorem span0 {pm pc W H n C : Nat} (w : World) (hd : At w pm #[.int .i64 W, .int .i64 H, .slice (some ⟨pc, 0, none⟩) n C] 94) (hC : n ≤ C) (hn : n = W * H) (hW : W ≤ 256) (hH : H ≤ 256) (y x0 x1 : Nat) (hy : y < H) (hx : x0 < x1) (hw : x1 ≤ W) :
    Calls Try.prog 56 #[.pointer (some ⟨pm, 0, none⟩), .int .i64 y, .int .i64 x0, .int .i64 x1] w (fun e w' => e = .returned (.slice (some ⟨pc, y * W + x0, none⟩) (x1 - x0) (C - (y * W + x0))) ∧ ∃ n, w' = w.drewN n) := by
  have hk := row_of (show x0 < W by omega) hy
  have hk2 := row_of (show x1 - 1 < W by omega) hy
  have hle := area_le hW hH
  rw [← hn] at hk hk2 hle
  have e1 : IntKind.i64.wrap ((y : Int) * (W : Int)) = ((y * W : Nat) : Int) := by rw [← Int.natCast_mul]; exact IntWalk.i64_in _ (by omega)
  have e2 : IntKind.i64.wrap (((y * W : Nat) : Int) + (x0 : Int)) = ((y * W + x0 : Nat) : Int) := by rw [← Int.natCast_add]; exact IntWalk.i64_in _ (by omega)
  have e3 : IntKind.i64.wrap (((y * W : Nat) : Int) + (x1 : Int)) = ((y * W + x1 : Nat) : Int) := by rw [← Int.natCast_add]; exact IntWalk.i64_in _ (by omega)
  have k0 : w.cell? ⟨pm, 0, none⟩ = some (.int .i64 W) := hd.cell 0
  have k2 : w.cell? ⟨pm, 2, none⟩ = some (.slice (some ⟨pc, 0, none⟩) n C) := hd.cell 2
  have h1 : y * W + x0 < y * W + x1 := by omega
  have h2 : y * W + x1 ≤ C := by omega
  have h3 : y * W + x1 - (y * W + x0) = x1 - x0 := by omega
  rw [← h3]
  clear h3 hk hk2 hn
  generalize y * W + x0 = k at *
  generalize y * W + x1 = k' at *
  generalize y * W = p at *
  clear hd
  go_enter Try.func56, Try.ntmps56
  go_wp2
  go_quiet (fail)
  go_wp2
  go_ret
  exact ⟨rfl, _, rfl⟩
theorem span1 {pm pc W H : Nat} {L : List Int} (w : World) (hI : Img w pm pc W H L) (y x0 x1 : Nat) (hy : y < H) (hx : x0 < x1) (hw : x1 ≤ W) :
    Calls Try.prog 56 #[.pointer (some ⟨pm, 0, none⟩), .int .i64 y, .int .i64 x0, .int .i64 x1] w (fun e w' => e = .returned (.slice (some ⟨pc, y * W + x0, none⟩) (x1 - x0) (L.length - (y * W + x0))) ∧ ∃ n, w' = w.drewN n) :=
  span0 w hI.hd (Nat.le_refl _) hI.len hI.w2 hI.h2 y x0 x1 hy hx hw

set_option maxHeartbeats 1000000 in
theorem spans1 (pm : Nat) (a b c d : Int) (w : World) :
    Calls Try.prog 44 #[.pointer (some ⟨pm, 0, none⟩), .agg #[.int .i64 a, .int .i64 b, .int .i64 c, .int .i64 d]] w (fun e w' => e = .returned (.func (.func 55) #[] #[.pointer (some ⟨w.heap.size + 1, 0, none⟩), .pointer (some ⟨w.heap.size, 0, none⟩)]) ∧
      w' = (w.alloc (.cells #[.pointer (some ⟨pm, 0, none⟩)] 48)).alloc (.cells #[.int .i64 a, .int .i64 b, .int .i64 c, .int .i64 d] 31)) := by
  go_enter Try.func44, Try.ntmps44
  go_wp2
  go_ret
  exact ⟨rfl, rfl⟩

/-- What a round that goes on keeps: three blocks. -/
def Keep3 (p q r : Nat) (A B : World) : Prop := B.heap[p]? = A.heap[p]? ∧ B.heap[q]? = A.heap[q]? ∧ B.heap[r]? = A.heap[r]?
theorem Keep3.refl (p q r : Nat) (A : World) : Keep3 p q r A A := ⟨rfl, rfl, rfl⟩
theorem Keep3.trans {p q r : Nat} {A B C : World} (h : Keep3 p q r A B) (k : Keep3 p q r B C) : Keep3 p q r A C := ⟨k.1.trans h.1, k.2.1.trans h.2.1, k.2.2.trans h.2.2⟩
theorem Keep3.book {p q r : Nat} {w : World} (hp : p < w.heap.size) (hq : q < w.heap.size) (hr : r < w.heap.size) (W : World) (l : Nat) (o o' : Obj) (hl : w.heap.size ≤ l) (_ : W.heap[l]? = some o) (_ : o.isCells = false) (_ : o.isWalk = false) : Keep3 p q r W (W.putObj l o') :=
  ⟨World.putObj_heap_other (by omega), World.putObj_heap_other (by omega), World.putObj_heap_other (by omega)⟩
theorem At.same {w w' : World} {b : Nat} {cs : Array Value} {t : TypeId} (h : At w b cs t) (e : w'.heap[b]? = w.heap[b]?) : At w' b cs t := by unfold At at *; rw [e]; exact h
theorem range'_succ_snoc (a k : Nat) : List.range' a (k + 1) = List.range' a k ++ [a + k] := by rw [List.range'_concat]; simp

/-- What spans tells of a row y. -/
def rowV (pc W n x0 x1 : Nat) {H : Nat} (y : Fin H) : Array Value := #[.int .i64 (y.1 : Int), .slice (some ⟨pc, y.1 * W + x0, none⟩) (x1 - x0) (n - (y.1 * W + x0))]

set_option maxRecDepth 100000 in
set_option maxHeartbeats 2000000 in
theorem spansIter (n : Nat) (hn : 1 ≤ n) (l Bm Br tm tr pm pc W H N C x0 x1 y0 y1 : Nat) (J Jx : List (Fin H) → World → Prop) (hx : y0 < y1 → x0 < x1) (hw : x1 ≤ W) (hy : y0 ≤ y1) (hh : y1 ≤ H)
    (hA : ∀ pre A B, J pre A → A.grownBy B none → J pre B)
    (hY : ∀ pre y W1, J pre W1 → pre.length < y1 - y0 → YieldAt Fence.wide (n - 1) Try.prog l (rowV pc W C x0 x1 y) W1 fun e W' =>
      (e = .returned (.bool true) ∧ J (pre ++ [y]) W' ∧ Keep3 pm Bm Br W1 W') ∨ (e = .returned (.bool false) ∧ Jx (pre ++ [y]) W'))
    (V : World) (hd : At V pm #[.int .i64 W, .int .i64 H, .slice (some ⟨pc, 0, none⟩) N C] 94) (hC : N ≤ C) (hl : N = W * H) (hW : W ≤ 256) (hH : H ≤ 256) (hbm : At V Bm #[.pointer (some ⟨pm, 0, none⟩)] tm) (hbr : At V Br #[.int .i64 x0, .int .i64 y0, .int .i64 x1, .int .i64 y1] tr) (h0 : J [] V) :
    CallsIn Fence.wide n Try.prog 55 #[.func (.yield l) #[] #[], .pointer (some ⟨Br, 0, none⟩), .pointer (some ⟨Bm, 0, none⟩)] V fun e W' => (∃ v, e = .returned v) ∧
      ((∃ ys : List (Fin H), ys.map (·.1) = List.range' y0 (y1 - y0) ∧ J ys W') ∨ (∃ pre : List (Fin H), pre.map (·.1) <+: List.range' y0 (y1 - y0) ∧ Jx pre W')) := by
  refine callsIn_of_wp Try.func55 rfl trivial ?_ rfl
  simp only [Try.ntmps55, List.size_toArray, List.length_cons, List.length_nil, Nat.reduceAdd, Nat.reduceSub, Array.replicate_succ, Array.replicate_zero, List.push_toArray, List.append_toArray, List.nil_append, List.cons_append]
  have b1 : V.cell? ⟨Br, 1, none⟩ = some (.int .i64 y0) := hbr.cell 1
  gi_wp2
  clear b1
  gi_loopw [4] (fun i wr => ∃ (y : Nat) (pre : List (Fin H)), y0 ≤ y ∧ y ≤ y1 ∧ i = .int .i64 y ∧ pre.map (·.1) = List.range' y0 (y - y0) ∧ J pre wr ∧ Keep3 pm Bm Br V wr)
    (fun i _ => y1 - (intOf i).toNat)
  case atStart => exact ⟨y0, [], Nat.le_refl _, hy, rfl, by simp, h0, Keep3.refl _ _ _ _⟩
  case round =>
    obtain ⟨y, pre, hy0, hy1, rfl, hpre, hJ, hK⟩ := hrel
    have R := hbr.same hK.2.2
    have M := hbm.same hK.2.1
    have D := hd.same hK.1
    have r0 : wr.cell? ⟨Br, 0, none⟩ = some (.int .i64 x0) := R.cell 0
    have r2 : wr.cell? ⟨Br, 2, none⟩ = some (.int .i64 x1) := R.cell 2
    have r3 : wr.cell? ⟨Br, 3, none⟩ = some (.int .i64 y1) := R.cell 3
    have m0 : wr.cell? ⟨Bm, 0, none⟩ = some (.pointer (some ⟨pm, 0, none⟩)) := M.cell 0
    have hlen : pre.length = y - y0 := by have := congrArg List.length hpre; simpa using this
    by_cases hlt : y < y1
    · have cs := span0 wr D hC hl hW hH y x0 x1 (by omega) (hx (by omega)) hw
      obtain ⟨v, hv⟩ : ∃ v, v = Value.slice (some ⟨pc, y * W + x0, none⟩) (x1 - x0) (C - (y * W + x0)) := ⟨_, rfl⟩
      have rv : rowV pc W C x0 x1 (⟨y, by omega⟩ : Fin H) = #[.int .i64 y, v] := by rw [hv]; rfl
      rw [← hv] at cs
      clear hv
      have hYY := fun q => hY pre ⟨y, by omega⟩ (wr.drewN q) (hA _ _ _ hJ ((Gr.refl wr).drewN q |>.by none)) (by omega)
      rw [rv] at hYY
      have hpre' := Lib.hid hpre
      clear hpre rv hY
      have hlen' := Lib.hid hlen
      clear hlen
      gi_wp2_with (refine ⟨trivial, ?_⟩; gi_at_call 56; refine (callsIn_wide.2 cs).mono ?_; rintro e w' ⟨rfl, q, rfl⟩; obtain ⟨fn, tmps, assign, body, hyy, hR⟩ := hYY q)
      refine hR.mono ?_
      rintro e W3 (⟨rfl, hJ3, hk3⟩ | ⟨rfl, hJx3⟩)
      · gi_wp2
        go_roundw
        case rel => exact ⟨y + 1, pre ++ [⟨y, by omega⟩], by omega, by omega, by simp, by rw [List.map_append, hpre'.out, show y + 1 - y0 = (y - y0) + 1 by omega, range'_succ_snoc]; simp; omega, hJ3, hK.trans hk3⟩
        case measure => simp [intOf]; omega
      · gi_wp2
        refine bodyPost_ret (results_none rfl _ _ _) rfl ?_
        refine ⟨⟨_, rfl⟩, .inr ⟨pre ++ [⟨y, by omega⟩], ?_, hJx3⟩⟩
        rw [List.map_append, hpre'.out]
        refine ⟨List.range' (y + 1) (y1 - (y + 1)), ?_⟩
        rw [show y1 - y0 = (y - y0) + (1 + (y1 - (y + 1))) by omega, ← List.range'_append_1, ← List.range'_append_1]
        simp
        omega
    · obtain rfl : y = y1 := by omega
      gi_wp2
      go_end0
      exact ⟨⟨_, rfl⟩, .inl ⟨pre, hpre, hJ⟩⟩

theorem spansStops (n : Nat) (hn : 1 ≤ n) (Bm Br tm tr pm pc W H N C x0 x1 y0 y1 : Nat) (hx : y0 < y1 → x0 < x1) (hw : x1 ≤ W) (hy : y0 ≤ y1) (hh : y1 ≤ H)
    (V : World) (hd : At V pm #[.int .i64 W, .int .i64 H, .slice (some ⟨pc, 0, none⟩) N C] 94) (hC : N ≤ C) (hl : N = W * H) (hW : W ≤ 256) (hH : H ≤ 256) (hbm : At V Bm #[.pointer (some ⟨pm, 0, none⟩)] tm) (hbr : At V Br #[.int .i64 x0, .int .i64 y0, .int .i64 x1, .int .i64 y1] tr) :
    SeqStopsK Fence.wide n Try.prog 55 #[.pointer (some ⟨Br, 0, none⟩), .pointer (some ⟨Bm, 0, none⟩)] (fun y : Fin H => rowV pc W C x0 x1 y) (Keep3 pm Bm Br)
      (fun ys => ys.map (·.1) = List.range' y0 (y1 - y0)) (fun pre => pre.map (·.1) <+: List.range' y0 (y1 - y0)) (y1 - y0) V := fun l J Jx W' hW' hJ _ hY h0 =>
  spansIter n hn l Bm Br tm tr pm pc W H N C x0 x1 y0 y1 J Jx hx hw hy hh (fun pre A B h hg => hJ pre A B none h hg (fun r e => by cases e)) hY W'
    (hd.same (hW'.block _ hd.lt)) hC hl hW hH (hbm.same (hW'.block _ hbm.lt)) (hbr.same (hW'.block _ hbr.lt)) h0

end Go.Proofs.Ytkaaagggbclofaa
namespace Go.Proofs.Ytkaaagggbclofaa
open Go.RowKit Go.Sort Go.Shelf

attribute [local go_sem] Oper.semAt_some

/-- Values put in from place k on. -/
def putRun : List Int → Nat → List Int → List Int
  | L, _, [] => L
  | L, k, v :: vs => putRun (L.set k v) (k + 1) vs
theorem putRun_len : ∀ (vs L : List Int) (k : Nat), (putRun L k vs).length = L.length
  | [], _, _ => rfl
  | v :: vs, L, k => by unfold putRun; rw [putRun_len vs]; simp
theorem putRun_snoc : ∀ (vs L : List Int) (k : Nat) (v : Int), putRun L k (vs ++ [v]) = (putRun L k vs).set (k + vs.length) v
  | [], L, k, v => by simp [putRun]
  | u :: vs, L, k, v => by
    show putRun (L.set k u) (k + 1) (vs ++ [v]) = (putRun (L.set k u) (k + 1) vs).set (k + (vs.length + 1)) v
    rw [putRun_snoc vs]; congr 1; omega
theorem putRun_get : ∀ (vs L : List Int) (k i : Nat), (putRun L k vs)[i]? = if k ≤ i ∧ i < k + vs.length ∧ i < L.length then vs[i - k]? else L[i]?
  | [], L, k, i => by
    rw [if_neg (by simp; omega)]; rfl
  | v :: vs, L, k, i => by
    show (putRun (L.set k v) (k + 1) vs)[i]? = _
    rw [putRun_get vs]
    simp only [List.length_set, List.length_cons]
    by_cases h : k + 1 ≤ i ∧ i < k + 1 + vs.length ∧ i < L.length
    · rw [if_pos h, if_pos (by omega), show i - k = (i - (k + 1)) + 1 by omega]; rfl
    · rw [if_neg h, List.getElem?_set]
      by_cases h2 : k = i
      · subst h2
        by_cases h3 : k < L.length
        · simp [h3]
        · simp [h3]
      · rw [if_neg h2, if_neg (by omega)]

/-- Rows y of W colors, from x0 up to x1, that are filled. -/
def fillR (W x0 x1 : Nat) (c : Int) (L : List Int) (ys : List Nat) : List Int := ys.foldl (fun L y => putRun L (y * W + x0) (List.replicate (x1 - x0) c)) L
theorem fillR_len (W x0 x1 : Nat) (c : Int) : ∀ (ys : List Nat) (L : List Int), (fillR W x0 x1 c L ys).length = L.length
  | [], _ => rfl
  | y :: ys, L => by
    show (fillR W x0 x1 c (putRun L _ _) ys).length = _
    rw [fillR_len W x0 x1 c ys, putRun_len]
theorem fillR_snoc (W x0 x1 : Nat) (c : Int) (ys : List Nat) (L : List Int) (y : Nat) : fillR W x0 x1 c L (ys ++ [y]) = putRun (fillR W x0 x1 c L ys) (y * W + x0) (List.replicate (x1 - x0) c) := by simp [fillR]

theorem ownAt {β : Type} (B b : Nat) (cs : β → Array Value) (t : TypeId) : OwnFrom B (fun s W => At W b (cs s) t) := fun s X Y row hs hg hr =>
  hs.kept hg (fun e => by obtain ⟨_, o, ho, hc⟩ := hr b e.symm; rw [show X.heap[b]? = _ from hs] at ho; cases ho; cases hc)
theorem ownImg {β : Type} (B pm pc W H : Nat) (L : β → List Int) : OwnFrom B (fun s V => Img V pm pc W H (L s)) := fun s X Y row hs hg hr =>
  hs.kept hg (fun e => by obtain ⟨_, o, ho, hc⟩ := hr pm e.symm; rw [show X.heap[pm]? = _ from hs.hd] at ho; cases ho; cases hc)
    (fun e => by obtain ⟨_, o, ho, hc⟩ := hr pc e.symm; rw [show X.heap[pc]? = _ from hs.cs] at ho; cases ho; cases hc)
theorem ownBy {β : Type} {B : Nat} {w0 : World} (row0 : Option Nat) (h : w0.heap.size ≤ B) : OwnFrom B (fun (_ : β) V => w0.grownBy V row0) := fun _ X Y row hs hg hr =>
  ⟨hg.os.trans hs.os, hg.tape.trans hs.tape, hg.output.trans hs.output, Nat.le_trans hs.size hg.size, fun k hk hne => (hg.block k (Nat.lt_of_lt_of_le hk hs.size) (fun e => by have := (hr k e.symm).1; omega)).trans (hs.block k hk hne)⟩

theorem then_false {K : Act → World → Prop} {Q : Exit → Act → World → Prop} : ∀ e a w, Exit.then K (fun _ _ _ => False) e a w → Exit.then K Q e a w := by
  intro e a w h
  cases e <;> first | exact h | exact h.elim
/-- A block that was not there may be turned. -/
theorem by_row {a b c : World} {row : Option Nat} {r : Nat} (h : a.grownBy b row) (g : b.grownBy c (some r)) (hr : a.heap.size ≤ r) : a.grownBy c row :=
  ⟨g.os.trans h.os, g.tape.trans h.tape, g.output.trans h.output, Nat.le_trans h.size g.size, fun k hk hne => (g.block k (Nat.lt_of_lt_of_le hk h.size) (fun e => by cases e; omega)).trans (h.block k hk hne)⟩
theorem cells4 {w : World} {b : Nat} {v0 v1 v2 v3 : Value} {t : TypeId} (h : At w b #[v0, v1, v2, v3] t) : w.cell? ⟨b, 0, none⟩ = some v0 ∧ w.cell? ⟨b, 1, none⟩ = some v1 ∧ w.cell? ⟨b, 2, none⟩ = some v2 ∧ w.cell? ⟨b, 3, none⟩ = some v3 := ⟨h.cell 0, h.cell 1, h.cell 2, h.cell 3⟩
theorem free4 {w : World} {b : Nat} {cs : Array Value} {t : TypeId} (h : At w b cs t) : w.frozen? ⟨b, 0, none⟩ = false ∧ w.frozen? ⟨b, 1, none⟩ = false ∧ w.frozen? ⟨b, 2, none⟩ = false ∧ w.frozen? ⟨b, 3, none⟩ = false := ⟨h.free 0, h.free 1, h.free 2, h.free 3⟩

end Go.Proofs.Ytkaaagggbclofaa
namespace Go.Proofs.Ytkaaagggbclofaa
open Go.RowKit Go.Sort

theorem Bl.row {a b c : World} {r : Nat} (h : Bl a b) (g : b.grownBy c (some r)) (hr : a.heap.size ≤ r) : Bl a c :=
  ⟨g.os.trans (Below.os h), g.tape.trans (Below.tape h), g.output.trans (Below.output h), Nat.le_trans h.size g.size, fun k hk => (g.block k (Nat.lt_of_lt_of_le hk h.size) (fun e => by cases e; omega)).trans (Below.block h k hk)⟩
theorem Img.bl {w w' : World} {pm pc W H : Nat} {L : List Int} (h : Img w pm pc W H L) (g : Bl w w') : Img w' pm pc W H L := { h with hd := h.hd.bl g, cs := h.cs.bl g }

end Go.Proofs.Ytkaaagggbclofaa
namespace Go.Proofs.Ytkaaagggbclofaa
open Go.ChangeShapes Go.WideShapes Go.ChangeAt Go.RowKit Go.Joins Go.Sort Go.Deep

theorem cellsCol : Try.prog.cellsOf 56 = 1 := by kernel_rfl
theorem cellsByte : Try.prog.cellsOf 5 = 1 := by kernel_rfl
def U32 (n : Int) : Prop := 0 ≤ n ∧ n ≤ 4294967295
theorem U32.of_wf {n : Int} (h : (Lit.int .u32 n).wf = true) : U32 n := by
  simp [Lit.wf, IntKind.min, IntKind.max, IntKind.bits, IntKind.signed] at h
  unfold U32
  omega
def U8 (n : Int) : Prop := 0 ≤ n ∧ n ≤ 255
theorem U8.of_wf {n : Int} (h : (Lit.int .u8 n).wf = true) : U8 n := by
  simp [Lit.wf, IntKind.min, IntKind.max, IntKind.bits, IntKind.signed] at h
  unfold U8
  omega

/-- From cell off of block b on lie these numbers. -/
def RowN (k : IntKind) (w : World) (b off : Nat) (L : List Int) : Prop := ∀ i x, L[i]? = some x → w.cell? ⟨b, off + i, none⟩ = some (.int k x)
/-- A slice of that address reads so. -/
def Ns (k : IntKind) (w : World) (A : Option Addr) (L : List Int) : Prop := L = [] ∨ ∃ b off, A = some ⟨b, off, none⟩ ∧ RowN k w b off L

section
variable {H : Type} {enc : TypeId × Value → H} {w : World} {base : Nat} {spare : Nat → Bool} {held : Bool}
set_option maxRecDepth 100000 in
/-- The argument: a row of numbers that came in. -/
theorem open_nums {k : IntKind} {t e : TypeId} (ht : Try.prog.underlying t = some (.slice e)) (he : Try.prog.underlying e = some (.int k)) (hc1 : Try.prog.cellsOf e = 1) {v : Value} {dd : DataW H} {p : List MemPlace} {b0 : Nat} {r : Reach} (hv : Value.okWide Try.prog w r b0 t v) (h : DataW.Trod enc Try.prog w base spare held t v dd p) :
    ∃ (A : Option Addr) (cap : Nat) (L : List Int), v = .slice A L.length cap ∧ L.length ≤ cap ∧ cap ≤ maxLen ∧ Ns k w A L ∧ ∀ x ∈ L, (Lit.int k x).wf = true := by
  obtain ⟨a0, len0, cap0, rfl⟩ := okWide_slice ht hv
  obtain ⟨fuel, hf⟩ := h
  rcases open_slice ht hf with ⟨hc, _⟩ | ⟨a, len, cap, m, n, D, Pl, hc, _, hl, hm, hmm, _, hx⟩
  · simp [Value.cells] at hc
    obtain ⟨rfl, rfl, rfl⟩ := hc
    exact ⟨none, 0, [], rfl, Nat.zero_le _, Nat.zero_le _, .inl rfl, by intro r hr; simp at hr⟩
  · simp [Value.cells] at hc
    obtain ⟨rfl, rfl, rfl⟩ := hc
    by_cases hz : len0 = 0
    · subst hz; exact ⟨_, _, [], rfl, Nat.zero_le _, hm, .inl rfl, by intro r hr; simp at hr⟩
    · have hlm : len0 ≤ m := by rw [hmm]; split <;> omega
      have each : ∀ i, i < m → ∃ q : Int, w.cell? (a.add i) = some (Value.int k q) ∧ (Lit.int k q).wf = true := by
        intro i hi
        obtain ⟨cs', h1, h2⟩ := hx i hi
        rw [hc1] at h1
        obtain ⟨_, hlen, hcell⟩ := World.cells?_some h1
        obtain ⟨q, e0, _, wq⟩ := DataW.trod_int he h2
        refine ⟨q, ?_, wq⟩
        have := hcell 0 (by omega)
        rw [add_add, e0] at this
        simpa using this
      obtain ⟨f, hfq⟩ := choose_lt each
      have h0 := (hfq 0 (by omega)).1
      obtain ⟨b, off, spot⟩ := a
      cases spot with
      | some t =>
        simp [Addr.add, World.cell?] at h0
        exfalso
        split at h0 <;> cases h0
      | none =>
        have ad : ∀ i, (⟨b, off, none⟩ : Addr).add i = ⟨b, off + i, none⟩ := fun i => by unfold Addr.add; split <;> simp_all
        refine ⟨some ⟨b, off, none⟩, cap0, (List.range len0).map f, by simp, by simpa using hl, hm, .inr ⟨b, off, rfl, fun k r hk => ?_⟩, fun r hr => ?_⟩
        · have hkl : k < ((List.range len0).map f).length := by
            rcases Nat.lt_or_ge k ((List.range len0).map f).length with h' | h'
            · exact h'
            · rw [List.getElem?_eq_none h'] at hk; cases hk
          simp at hkl
          simp [hkl] at hk
          subst hk
          have hk' := (hfq k (by omega)).1
          rwa [ad] at hk'
        · rw [List.mem_map] at hr
          obtain ⟨k, hk, rfl⟩ := hr
          rw [List.mem_range] at hk
          exact (hfq k (by omega)).2
set_option maxRecDepth 100000 in
theorem open_colors {v : Value} {dd : DataW H} {p : List MemPlace} {b0 : Nat} {r : Reach} (hv : Value.okWide Try.prog w r b0 76 v) (h : DataW.Trod enc Try.prog w base spare held 76 v dd p) :
    ∃ (A : Option Addr) (cap : Nat) (L : List Int), v = .slice A L.length cap ∧ L.length ≤ cap ∧ cap ≤ maxLen ∧ Ns .u32 w A L ∧ ∀ x ∈ L, C32 x := by
  obtain ⟨A, c, L, h1, h2, h3, h4, h5⟩ := open_nums Try.underlying76 Try.underlying56 cellsCol hv h
  exact ⟨A, c, L, h1, h2, h3, h4, fun x hx => U32.of_wf (h5 x hx)⟩
set_option maxRecDepth 100000 in
theorem open_bytes {v : Value} {dd : DataW H} {p : List MemPlace} {b0 : Nat} {r : Reach} (hv : Value.okWide Try.prog w r b0 32 v) (h : DataW.Trod enc Try.prog w base spare held 32 v dd p) :
    ∃ (A : Option Addr) (cap : Nat) (L : List Int), v = .slice A L.length cap ∧ L.length ≤ cap ∧ cap ≤ maxLen ∧ Ns .u8 w A L ∧ ∀ x ∈ L, U8 x := by
  obtain ⟨A, c, L, h1, h2, h3, h4, h5⟩ := open_nums Try.underlying32 Try.underlying5 cellsByte hv h
  exact ⟨A, c, L, h1, h2, h3, h4, fun x hx => U8.of_wf (h5 x hx)⟩
end

end Go.Proofs.Ytkaaagggbclofaa
namespace Go.Proofs.Ytkaaagggbclofaa
open Go.RowKit Go.Sort Go.Deep

theorem RowN.bl {k : IntKind} {w w' : World} {b off : Nat} {L : List Int} (h : RowN k w b off L) (g : Bl w w') : RowN k w' b off L := fun i x hi =>
  (Below.cell g (World.block_lt_of_cell? w _ (h i x hi))).trans (h i x hi)
theorem RowN.kept {k : IntKind} {w w' : World} {b off : Nat} {L : List Int} {row : Option Nat} (h : RowN k w b off L) (g : w.grownBy w' row) (hne : some b ≠ row) : RowN k w' b off L := fun i x hi =>
  g.cell (h i x hi) hne
theorem RowN.gr {k : IntKind} {w w' : World} {b off : Nat} {L : List Int} (h : RowN k w b off L) (g : Gr w w') : RowN k w' b off L := h.bl g.bl
theorem Ns.bl {k : IntKind} {w w' : World} {A : Option Addr} {L : List Int} (h : Ns k w A L) (g : Bl w w') : Ns k w' A L := by
  rcases h with h | ⟨b, off, h1, h2⟩
  · exact .inl h
  · exact .inr ⟨b, off, h1, h2.bl g⟩
theorem At.rowC {w : World} {b : Nat} {L : List Int} {t : TypeId} (h : At w b (cC L) t) : RowN .u32 w b 0 L := fun i x hi => by
  rw [Nat.zero_add, h.cell i, cC_get, hi]; rfl

/-- Whose colors may all be. -/
def MayL (L : List Int) : Prop := ∀ c ∈ L, C32 c ∧ mayC c = true
theorem get_of {L : List Int} {i : Nat} {x : Int} (h : L[i]? = some x) : x ∈ L ∧ i < L.length := by
  have hl : i < L.length := by
    rcases Nat.lt_or_ge i L.length with h' | h'
    · exact h'
    · rw [List.getElem?_eq_none h'] at h; cases h
  rw [List.getElem?_eq_getElem hl] at h
  cases h
  exact ⟨List.getElem_mem hl, hl⟩

set_option maxHeartbeats 1000000 in
theorem refNew1 (W H : Nat) (w : World) (w2 : W ≤ 256) (h2 : H ≤ 256) :
    Calls Try.prog 37 #[.int .i64 W, .int .i64 H] w (fun e w' => ∃ b, e = .returned (.agg #[.int .i64 W, .int .i64 H, .slice (some ⟨b, 0, none⟩) (W * H) (W * H)]) ∧ At w' b (cC (List.replicate (W * H) 0)) 56 ∧ w.heap.size ≤ b ∧ Gr w w') := by
  have hle := area_le w2 h2
  have e1 : IntKind.i64.wrap ((W : Int) * (H : Int)) = ((W * H : Nat) : Int) := by rw [← Int.natCast_mul]; exact IntWalk.i64_in _ (by omega)
  have q1 : wrap64 ((W : Int) * (H : Int)) = ((W * H : Nat) : Int) := by rw [← Int.natCast_mul]; exact w64 (by omega) (by omega)
  generalize W * H = n at *
  have mk := makeC n (by omega)
  generalize List.replicate n (0 : Int) = L at mk ⊢
  have R := (At.new w #[.int .i64 0, .int .i64 0, .slice none 0 0] 78).alloc (.cells (cC L) 56)
  have C := At.newAt (w := w.alloc (.cells #[.int .i64 0, .int .i64 0, .slice none 0 0] 78)) (n := w.heap.size + 1) (by simp) (cC L) 56
  go_enter Try.func37, Try.ntmps37
  go_wp2
  go_returns
  exact ⟨_, rfl, At.newAt (by simp) _ _, by omega, ((Gr.refl w).alloc _).alloc _⟩

/-- A row y, a place x. -/
theorem div_of {k W H : Nat} (hW : 1 ≤ W) (h : k < W * H) : k % W < W ∧ k / W < H ∧ k / W * W + k % W = k := by
  refine ⟨Nat.mod_lt _ hW, ?_, ?_⟩
  · rw [Nat.div_lt_iff_lt_mul (by omega)]; rw [Nat.mul_comm]; exact h
  · rw [Nat.mul_comm]; exact Nat.div_add_mod k W

set_option maxHeartbeats 1000000 in
theorem refBox1 {W H c n : Nat} {A : Option Addr} (w : World) :
    Calls Try.prog 31 #[.agg #[.int .i64 W, .int .i64 H, .slice A n c]] w (Rt w (.agg #[.int .i64 0, .int .i64 0, .int .i64 W, .int .i64 H])) := by
  go_enter Try.func31, Try.ntmps31
  go_wp2
  go_returns
  exact Rt.rect (r := ⟨0, 0, W, H⟩) ⟨rfl, rfl, rfl, rfl⟩ (((Gr.refl w).alloc _).alloc _)

end Go.Proofs.Ytkaaagggbclofaa
namespace Go.Proofs.Ytkaaagggbclofaa
open Go.RowKit Go.Sort Go.Deep

theorem mod_int (k W : Nat) : ((k : Int).tmod (W : Int)) = ((k % W : Nat) : Int) := by rw [Int.tmod_eq_emod_of_nonneg (by omega)]; simp
theorem div_int (k W : Nat) : ((k : Int).tdiv (W : Int)) = ((k / W : Nat) : Int) := by rw [Int.tdiv_eq_ediv_of_nonneg (by omega)]; simp

theorem rem_quo (k W : Nat) (hW : 1 ≤ W) (hk : k ≤ 1000000000) : ∃ i j : Nat, i = k % W ∧ j = k / W ∧ ¬ W = 0 ∧ ((k : Int).tmod (W : Int)) = (i : Int) ∧ ((k : Int) % (W : Int)) = (i : Int) ∧ ((k : Int) / (W : Int)) = (j : Int) ∧ IntKind.i64.wrap (i : Int) = (i : Int) ∧ IntKind.i64.wrap (j : Int) = (j : Int) ∧ wrap64 (i : Int) = (i : Int) ∧ wrap64 (j : Int) = (j : Int) := by
  have h2 : k % W ≤ k := Nat.mod_le _ _
  have h3 : k / W ≤ k := Nat.div_le_self _ _
  have bare : ∀ m : Nat, m ≤ k → IntKind.i64.wrap (m : Int) = (m : Int) ∧ wrap64 (m : Int) = (m : Int) := fun m h => ⟨IntWalk.i64_in _ (by omega), w64 (by omega) (by omega)⟩
  exact ⟨_, _, rfl, rfl, by omega, mod_int k W, by simp, by simp, (bare _ h2).1, (bare _ h3).1, (bare _ h2).2, (bare _ h3).2⟩
theorem take_set_z {L : List Int} {n k : Nat} {x : Int} (hn : k < n) (hx : L[k]? = some x) : (L.take k ++ List.replicate (n - k) 0).set k x = L.take (k + 1) ++ List.replicate (n - (k + 1)) 0 := by
  obtain ⟨_, hk⟩ := get_of hx
  have h1 : (L.take k).length = k := by rw [List.length_take]; omega
  have h2 : L.take (k + 1) = L.take k ++ [x] := by rw [List.take_add_one, hx]; rfl
  rw [show n - k = (n - (k + 1)) + 1 by omega, List.replicate_succ, List.set_append_right _ _ (by omega), h1, h2]
  simp

end Go.Proofs.Ytkaaagggbclofaa
namespace Go.Proofs.Ytkaaagggbclofaa
open Go.RowKit Go.Sort Go.Deep

def side (n : Int) : Nat := 1 + (around n 16).toNat
theorem side_bd (n : Int) : 1 ≤ side n ∧ side n ≤ 16 ∧ ((side n : Nat) : Int) = 1 + around n 16 := by
  have := around_bd n 16 (by omega)
  unfold side; omega
/-- The colors of an image that is made of these. -/
def goodL (n : Nat) (a : List Int) : List Int := (a.map gd).take n ++ List.replicate (n - a.length) 0
theorem goodL_len (n : Nat) (a : List Int) : (goodL n a).length = n := by simp [goodL]; omega
theorem goodL_may (n : Nat) (a : List Int) : MayL (goodL n a) := by
  intro c hc
  unfold goodL at hc
  rw [List.mem_append] at hc
  rcases hc with h | h
  · obtain ⟨x, _, rfl⟩ := List.mem_map.1 (List.mem_of_mem_take h)
    exact ⟨gd_c32 x, may_gd x⟩
  · obtain rfl := List.eq_of_mem_replicate h
    exact ⟨by unfold C32; omega, by decide⟩
theorem goodL_end {n k : Nat} {a : List Int} (h : k = n ∨ k = a.length) (hk : k ≤ n ∧ k ≤ a.length) : (a.map gd).take k ++ List.replicate (n - k) 0 = goodL n a := by
  unfold goodL
  rcases h with rfl | rfl
  · rw [show k - k = k - a.length by omega]
  · rw [List.take_of_length_le (by simp), List.take_of_length_le (l := a.map gd) (i := n) (by simp; omega)]
theorem At.put3 {w : World} {b : Nat} {z0 z1 z2 : Value} {t : TypeId} (h : At w b #[z0, z1, z2] t) (u0 u1 u2 : Value) :
    At (((w.setCell ⟨b, 0, none⟩ u0).setCell ⟨b, 1, none⟩ u1).setCell ⟨b, 2, none⟩ u2) b #[u0, u1, u2] t := by
  have h1 := Go.Joins.block_setCell (i := 0) h u0
  have h2 := Go.Joins.block_setCell (i := 1) h1 u1
  have h3 := Go.Joins.block_setCell (i := 2) h2 u2
  unfold At
  simpa using h3
theorem At.far3 {w : World} {b k : Nat} {cs : Array Value} {t : TypeId} (h : At w b cs t) (hp : b ≠ k) (u0 u1 u2 : Value) : At (((w.setCell ⟨k, 0, none⟩ u0).setCell ⟨k, 1, none⟩ u1).setCell ⟨k, 2, none⟩ u2) b cs t :=
  ((h.far (p := ⟨k, 0, none⟩) hp u0).far (p := ⟨k, 1, none⟩) hp u1).far (p := ⟨k, 2, none⟩) hp u2
theorem Bl.put3 {a w : World} (h : Bl a w) {k : Nat} (hk : a.heap.size ≤ k) (u0 u1 u2 : Value) : Bl a (((w.setCell ⟨k, 0, none⟩ u0).setCell ⟨k, 1, none⟩ u1).setCell ⟨k, 2, none⟩ u2) :=
  ((h.setCell (p := ⟨k, 0, none⟩) hk u0).setCell (p := ⟨k, 1, none⟩) hk u1).setCell (p := ⟨k, 2, none⟩) hk u2
theorem cells3 {w : World} {b : Nat} {v0 v1 v2 : Value} {t : TypeId} (h : At w b #[v0, v1, v2] t) : w.cell? ⟨b, 0, none⟩ = some v0 ∧ w.cell? ⟨b, 1, none⟩ = some v1 ∧ w.cell? ⟨b, 2, none⟩ = some v2 := ⟨h.cell 0, h.cell 1, h.cell 2⟩

end Go.Proofs.Ytkaaagggbclofaa
namespace Go.Proofs.Ytkaaagggbclofaa
open Go.RowKit Go.Sort Go.Deep

/-- A row of numbers that a call owns. -/
def OwN (k : IntKind) (e : TypeId) (w : World) (B : Nat) (A : Option Addr) (c : Nat) (L : List Int) : Prop := w.ownsRow B e 1 (.slice A L.length c) L.length (L.map (Value.int k))
theorem OwN.nil (k : IntKind) (e : TypeId) (w : World) (B : Nat) : OwN k e w B none 0 [] := World.ownsRow_nil _ _ _ _
theorem OwN.addr {k : IntKind} {e : TypeId} {w : World} {B : Nat} {A : Option Addr} {c : Nat} {L : List Int} (h : OwN k e w B A c L) : (A = none ∧ c = 0 ∧ L = []) ∨ ∃ g, A = some ⟨g, 0, none⟩ ∧ B ≤ g ∧ g < w.heap.size := by
  rcases h.2 with ⟨h1, h2⟩ | ⟨g, cap, cur, h1, h2, h3, _⟩
  · left
    injection h1 with a b c'
    exact ⟨a, c', List.eq_nil_of_length_eq_zero h2⟩
  · right
    injection h1 with a b c'
    refine ⟨g, a, h2, ?_⟩
    rcases Nat.lt_or_ge g w.heap.size with hl | hl
    · exact hl
    · rw [Array.getElem?_eq_none hl] at h3; cases h3
theorem OwN.row {k : IntKind} {e : TypeId} {w : World} {B g c : Nat} {L : List Int} (h : OwN k e w B (some ⟨g, 0, none⟩) c L) : RowN k w g 0 L := fun i x hi => by
  obtain ⟨_, hl⟩ : x ∈ L ∧ i < L.length := by
    have hl : i < L.length := by
      rcases Nat.lt_or_ge i L.length with h' | h'
      · exact h'
      · rw [List.getElem?_eq_none h'] at hi; cases hi
    exact ⟨by rw [List.getElem?_eq_getElem hl] at hi; cases hi; exact List.getElem_mem hl, hl⟩
  have q := World.ownsRow.cellAt h i (by omega)
  rw [Nat.zero_add, q]
  simp [hi]
theorem OwN.grown {k : IntKind} {e : TypeId} {w w' : World} {B : Nat} {A : Option Addr} {c : Nat} {L : List Int} {row : Option Nat} (h : OwN k e w B A c L) (g : w.grownBy w' row) (hne : A = none ∨ A.map (·.block) ≠ row) : OwN k e w' B A c L :=
  World.ownsRow.kept h g (by rw [slice_block]; rcases hne with rfl | hne; exact .inl rfl; exact .inr hne)
theorem OwN.bl {k : IntKind} {e : TypeId} {w w' : World} {B : Nat} {A : Option Addr} {c : Nat} {L : List Int} (h : OwN k e w B A c L) (g : Bl w w') : OwN k e w' B A c L :=
  h.grown (g.byr none) (by cases A with | none => exact .inl rfl | some a => exact .inr (by simp))
theorem OwN.gr {k : IntKind} {e : TypeId} {w w' : World} {B : Nat} {A : Option Addr} {c : Nat} {L : List Int} (h : OwN k e w B A c L) (g : Gr w w') : OwN k e w' B A c L := h.bl g.bl
theorem OwN.lies {k : IntKind} {e : TypeId} {w : World} {B : Nat} {A : Option Addr} {c : Nat} {L : List Int} (h : OwN k e w B A c L) : A = none ∨ ∃ g, A = some ⟨g, 0, none⟩ ∧ B ≤ g ∧ g < w.heap.size := by
  rcases h.addr with ⟨h1, _⟩ | h1
  · exact .inl h1
  · exact .inr h1
/-- What append leaves: the row, where it lies, and what else has turned. -/
def ApdN (w w' : World) (A : Option Addr) : Prop := w.grownBy w' (A.map (·.block))
theorem ApdN.bl {k : IntKind} {e : TypeId} {w0 w w' : World} {A : Option Addr} {B c : Nat} {L : List Int} (g : ApdN w w' A) (h : Bl w0 w) (hA : OwN k e w B A c L) (hB : w0.heap.size ≤ B) : Bl w0 w' :=
  h.grown g (fun j hj => by
    rcases hA.lies with rfl | ⟨k', rfl, h1, _⟩
    · cases hj
    · simp at hj; omega)
/-- A block that lies below the row's base lies as it lay. -/
theorem ApdN.at {k : IntKind} {e : TypeId} {w w' : World} {A : Option Addr} {B c : Nat} {L : List Int} (g : ApdN w w' A) (hA : OwN k e w B A c L) {b : Nat} {cs : Array Value} {t : TypeId} (h : At w b cs t) (hb : b < B) : At w' b cs t :=
  h.kept g (by
    rcases hA.lies with rfl | ⟨k', rfl, h1, _⟩
    · simp
    · simp; omega)
theorem one_int (k : IntKind) (L : List Int) : ∀ u ∈ L.map (Value.int k), u.oneCell' = true := by
  intro u h; simp at h; obtain ⟨x, _, rfl⟩ := h; rfl
theorem rowN_add {k : IntKind} {w : World} {b off : Nat} {L : List Int} (h : RowN k w b off L) : ∀ (j : Nat) (u : Value), (L.map (Value.int k))[j]? = some u → w.cell? (Addr.add ⟨b, off, none⟩ j) = some u := by
  intro j u hj
  rw [List.getElem?_map] at hj
  cases hx : L[j]? with
  | none => rw [hx] at hj; cases hj
  | some x =>
    rw [hx] at hj; cases hj
    have hadd : (⟨b, off, none⟩ : Addr).add j = ⟨b, off + j, none⟩ := by unfold Addr.add; split <;> simp_all
    rw [hadd]; exact h j x hx

theorem infoBy : (Try.prog.info? 5).map (fun i => (i.zero, i.size, i.bytes)) = some (some (.int .u8 0), 1, 1) := by kernel_rfl

theorem wp_app_n {k : IntKind} {t e : TypeId} {z : Value} {bs : Nat} (ht : Try.prog.underlying t = some (.slice e)) (hinfo : (Try.prog.info? e).map (fun i => (i.zero, i.size, i.bytes)) = some (some z, 1, bs)) (hz : z.cells.size = 1) (hbs : bs ≤ 8)
    {ops : Array Oper} {rest : List Oper} {o : Oper} {a : Act} {w : World} {Q : Exit → Act → World → Prop} (hgd : o.guard = none) (s x : Operand)
    (ho : o.op = .call { callee := .builtin .append, args := #[s, x], argTypes := #[t, t] }) (A : Option Addr) (c : Nat) (L : List Int) (hs : a.eval s = .slice A L.length c) (B : Nat) (hown : OwN k e w B A c L)
    (g0 off : Nat) (M : List Int) (c0 : Nat) (hx : a.eval x = .slice (some ⟨g0, off, none⟩) M.length c0) (hM : RowN k w g0 off M) (hm : 0 < M.length) (hlen : L.length + M.length ≤ 1000000000000) (hB : B ≤ w.heap.size)
    (h : ∀ A' c' w', OwN k e w' B A' c' (L ++ M) → ApdN w w' A → (∃ g, A' = some ⟨g, 0, none⟩) → wpList Try.prog ops Q rest (a.put o.dst (.slice A' (L.length + M.length) c')) w') :
    wpList Try.prog ops Q (o :: rest) a w := by
  obtain ⟨i0, hi, hz0, hz1, hz2⟩ := info_parts hinfo
  have hbb : (L.length + M.length) * bs ≤ (L.length + M.length) * 8 := Nat.mul_le_mul_left _ hbs
  refine wpList_append_lies (P := Try.prog) w hgd s x t ho B e i0 z 1 bs ht hi hz0 hz1 hz2 hz (by decide) (.slice A L.length c) L.length (L.map (Value.int k)) hs hown
    ⟨g0, off, none⟩ M.length c0 (M.map (Value.int k)) hx (by simp) (rowN_add hM) (one_int _ _) hm (by unfold maxLen; omega) (by omega) hB w.heap.size rfl ?_
  intro g cap w' h1 h2 h3 h4
  refine h (some ⟨g, 0, none⟩) cap w' ?_ ?_ ⟨g, rfl⟩
  · unfold OwN; rw [List.map_append, List.length_append]; exact h1
  · rw [slice_block] at h2; exact h2
theorem row_one {k : IntKind} {w : World} {g : Nat} {x : Int} {t : TypeId} (h : At w g #[.int k x] t) : RowN k w g 0 [x] := fun i y hi => by
  cases i with
  | zero => simp at hi; subst hi; exact h.cell 0
  | succ i => simp at hi

end Go.Proofs.Ytkaaagggbclofaa
namespace Go.Proofs.Ytkaaagggbclofaa
open Go.RowKit Go.Sort Go.Deep

/-- f 0, .., f (k - 1). -/
def upto (f : Nat → Int) (k : Nat) : List Int := (List.range k).map f
theorem upto_succ (f : Nat → Int) (k : Nat) : upto f (k + 1) = upto f k ++ [f k] := by simp [upto, List.range_succ]
theorem upto_len (f : Nat → Int) (k : Nat) : (upto f k).length = k := by simp [upto]
theorem upto_get (f : Nat → Int) (k i : Nat) : (upto f k)[i]? = if i < k then some (f i) else none := by
  unfold upto
  rw [List.getElem?_map]
  by_cases h : i < k
  · rw [if_pos h, List.getElem?_range h]; rfl
  · rw [if_neg h, List.getElem?_eq_none (by simp; omega)]; rfl
/-- How many of the first k are so. -/
def cntI (p : Nat → Bool) (k : Nat) : Nat := ((List.range k).filter p).length
theorem cntI_succ (p : Nat → Bool) (k : Nat) : cntI p (k + 1) = cntI p k + if p k then 1 else 0 := by
  unfold cntI; rw [List.range_succ, List.filter_append, List.length_append]
  cases h : p k <;> simp [h]
theorem Gr.put3 {a w : World} (h : Gr a w) {k : Nat} (hk : a.heap.size ≤ k) (u0 u1 u2 : Value) : Gr a (((w.setCell ⟨k, 0, none⟩ u0).setCell ⟨k, 1, none⟩ u1).setCell ⟨k, 2, none⟩ u2) :=
  ((h.setCell (p := ⟨k, 0, none⟩) hk u0).setCell (p := ⟨k, 1, none⟩) hk u1).setCell (p := ⟨k, 2, none⟩) hk u2
theorem RowN.far {k : IntKind} {w : World} {b off : Nat} {L : List Int} (h : RowN k w b off L) {p : Addr} (hp : b ≠ p.block) (u : Value) : RowN k (w.setCell p u) b off L :=
  h.kept (by_set (by_refl w _) (p := p) u) (by simp; exact hp)
theorem RowN.far3 {k : IntKind} {w : World} {b off : Nat} {L : List Int} (h : RowN k w b off L) {c : Nat} (hp : b ≠ c) (u0 u1 u2 : Value) : RowN k (((w.setCell ⟨c, 0, none⟩ u0).setCell ⟨c, 1, none⟩ u1).setCell ⟨c, 2, none⟩ u2) b off L :=
  ((h.far (p := ⟨c, 0, none⟩) hp u0).far (p := ⟨c, 1, none⟩) hp u1).far (p := ⟨c, 2, none⟩) hp u2
theorem cntI_le (p : Nat → Bool) (k : Nat) : cntI p k ≤ k := by
  have := List.length_filter_le p (List.range k); rw [List.length_range] at this; exact this

end Go.Proofs.Ytkaaagggbclofaa
namespace Go.Proofs.Ytkaaagggbclofaa
open Go.RowKit Go.Sort Go.Shelf

attribute [local go_sem] Oper.semAt_some

/-- Whether all colors of these rows, from x0 up to x1, are solid. -/
def rowS (L : List Int) (p k : Nat) : Bool := ((L.drop p).take k).all fun c => pA c == 255
def allS (W x0 x1 : Nat) (L : List Int) (ys : List Nat) : Bool := ys.all fun y => rowS L (y * W + x0) (x1 - x0)
theorem rowS_succ {L : List Int} {p k : Nat} {c : Int} (h : L[p + k]? = some c) : rowS L p (k + 1) = (rowS L p k && (pA c == 255)) := by
  unfold rowS
  rw [List.take_add_one, List.getElem?_drop, h]
  simp
theorem rowS_part {L : List Int} {p k m : Nat} (h : k ≤ m) (hf : rowS L p k = false) : rowS L p m = false := by
  unfold rowS at *
  rw [show m = k + (m - k) by omega, List.take_add, List.all_append, hf]; rfl
theorem allS_snoc (W x0 x1 : Nat) (L : List Int) (ys : List Nat) (y : Nat) : allS W x0 x1 L (ys ++ [y]) = (allS W x0 x1 L ys && rowS L (y * W + x0) (x1 - x0)) := by simp [allS]
theorem allS_pre {W x0 x1 : Nat} {L : List Int} {ys zs : List Nat} (h : ys <+: zs) (hf : allS W x0 x1 L ys = false) : allS W x0 x1 L zs = false := by
  obtain ⟨t, rfl⟩ := h
  unfold allS at *
  rw [List.all_append, hf]; rfl

theorem Gr.keeps {w w' : World} (g : Gr w w') : KeepsOthers w w' := ⟨g.size, fun k _ hk _ => (g.below.block k (Array.getElem?_eq_some_iff.1 hk).1).trans hk⟩
theorem Gr.keep3 {w w' : World} (g : Gr w w') {p q r : Nat} (hp : p < w.heap.size) (hq : q < w.heap.size) (hr : r < w.heap.size) : Keep3 p q r w w' := ⟨g.below.block _ hp, g.below.block _ hq, g.below.block _ hr⟩
theorem ownSize {β : Type} (B n : Nat) : OwnFrom B (fun (_ : β) V => n ≤ V.heap.size) := fun _ _ _ _ hs hg _ => Nat.le_trans hs hg.size
theorem bl_of {w w' : World} (h : w.grownBy w' none) : Bl w w' := ⟨h.os, h.tape, h.output, h.size, fun k hk => h.block k hk (by simp)⟩

end Go.Proofs.Ytkaaagggbclofaa
