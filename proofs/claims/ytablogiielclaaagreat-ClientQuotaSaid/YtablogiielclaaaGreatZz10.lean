/-
  What is proved: what span and spans of package image hand back, and what a range over spans comes to: an iterator's contract. a region that draws its order, in a round of a range over a function: from the walk as anywhere. No conditions. nothing of its own: it joins two texts. what Fill of package image does. what the document's example comes to, and what Fill does with a color that may not be. an argument that is a row of colors, or of bytes, reads as a list of them. No conditions. what the small calls of the document's images hand back: New, Box, At; and of build and like of the statements. what build and like of the statements do. what the document's Good hands back: an image made of any colors.
-/
import Derived.Test.YtablogiielclaaaGreatZz9
import Derived.Test.YtablogiielclaaaGreatZz1
import Derived.RangeFuncNested
import Derived.RangeFuncBound
import Derived.RangeFuncCalls
import Derived.RangeFuncLeaves
import Derived.Shelf.Abstract
import Derived.Shelf.RegionOpen
import Derived.OwnWalkIn
import Derived.TacticsInMore
import Derived.LoopNIn
import Derived.LoopIn
import Derived.Deep.RegionHeld3
import Derived.Carry
import Derived.Deep.Slices
import Derived.Deep.Fields
import Derived.LoopTactic
namespace Go.Proofs.YtablogiielclaaaGreat
open Go.RowKit Go.Sort Go.Shelf

attribute [local go_sem] Oper.semAt_some

set_option maxHeartbeats 1000000 in
theorem span0 {pm pc W H n C : Nat} (w : World) (hd : At w pm #[.int .i64 W, .int .i64 H, .slice (some ⟨pc, 0, none⟩) n C] 173) (hC : n ≤ C) (hn : n = W * H) (hW : W ≤ 256) (hH : H ≤ 256) (y x0 x1 : Nat) (hy : y < H) (hx : x0 < x1) (hw : x1 ≤ W) :
    Calls Tryz.prog 157 #[.pointer (some ⟨pm, 0, none⟩), .int .i64 y, .int .i64 x0, .int .i64 x1] w (fun e w' => e = .returned (.slice (some ⟨pc, y * W + x0, none⟩) (x1 - x0) (C - (y * W + x0))) ∧ ∃ n, w' = w.drewN n) := by
  have hk := row_of (show x0 < W by omega) hy
  have hk2 := row_of (show x1 - 1 < W by omega) hy
  have hle := area_le hW hH
  rw [← hn] at hk hk2 hle
  have e1 : IntKind.i64.wrap ((y : Int) * (W : Int)) = ((y * W : Nat) : Int) := by rw [← Int.natCast_mul]; exact IntWalk.i64_in _ (by omega)
  have e2 : IntKind.i64.wrap (((y * W : Nat) : Int) + (x0 : Int)) = ((y * W + x0 : Nat) : Int) := by rw [← Int.natCast_add]; exact IntWalk.i64_in _ (by omega)
  have e3 : IntKind.i64.wrap (((y * W : Nat) : Int) + (x1 : Int)) = ((y * W + x1 : Nat) : Int) := by rw [← Int.natCast_add]; exact IntWalk.i64_in _ (by omega)
  have k0 : w.cell? ⟨pm, 0, none⟩ = some (.int .i64 W) := hd.cell 0
  have k2 : w.cell? ⟨pm, 2, none⟩ = some (.slice (some ⟨pc, 0, none⟩) n C) := hd.cell 2
  have h1 : y * W + x0 < y * W + x1 := by omega
  have h2 : y * W + x1 ≤ C := by omega
  have h3 : y * W + x1 - (y * W + x0) = x1 - x0 := by omega
  rw [← h3]
  clear h3 hk hk2 hn
  generalize y * W + x0 = k at *
  generalize y * W + x1 = k' at *
  generalize y * W = p at *
  clear hd
  go_enter Tryz.func157, Tryz.ntmps157
  go_wp2
  go_quiet (fail)
  go_wp2
  go_ret
  exact ⟨rfl, _, rfl⟩
theorem span1 {pm pc W H : Nat} {L : List Int} (w : World) (hI : Img w pm pc W H L) (y x0 x1 : Nat) (hy : y < H) (hx : x0 < x1) (hw : x1 ≤ W) :
    Calls Tryz.prog 157 #[.pointer (some ⟨pm, 0, none⟩), .int .i64 y, .int .i64 x0, .int .i64 x1] w (fun e w' => e = .returned (.slice (some ⟨pc, y * W + x0, none⟩) (x1 - x0) (L.length - (y * W + x0))) ∧ ∃ n, w' = w.drewN n) :=
  span0 w hI.hd (Nat.le_refl _) hI.len hI.w2 hI.h2 y x0 x1 hy hx hw

set_option maxHeartbeats 1000000 in
theorem spans1 (pm : Nat) (a b c d : Int) (w : World) :
    Calls Tryz.prog 103 #[.pointer (some ⟨pm, 0, none⟩), .agg #[.int .i64 a, .int .i64 b, .int .i64 c, .int .i64 d]] w (fun e w' => e = .returned (.func (.func 156) #[] #[.pointer (some ⟨w.heap.size + 1, 0, none⟩), .pointer (some ⟨w.heap.size, 0, none⟩)]) ∧
      w' = (w.alloc (.cells #[.pointer (some ⟨pm, 0, none⟩)] 58)).alloc (.cells #[.int .i64 a, .int .i64 b, .int .i64 c, .int .i64 d] 31)) := by
  go_enter Tryz.func103, Tryz.ntmps103
  go_wp2
  go_ret
  exact ⟨rfl, rfl⟩

/-- What a round that goes on keeps: three blocks. -/
def Keep3 (p q r : Nat) (A B : World) : Prop := B.heap[p]? = A.heap[p]? ∧ B.heap[q]? = A.heap[q]? ∧ B.heap[r]? = A.heap[r]?
theorem Keep3.refl (p q r : Nat) (A : World) : Keep3 p q r A A := ⟨rfl, rfl, rfl⟩
theorem Keep3.trans {p q r : Nat} {A B C : World} (h : Keep3 p q r A B) (k : Keep3 p q r B C) : Keep3 p q r A C := ⟨k.1.trans h.1, k.2.1.trans h.2.1, k.2.2.trans h.2.2⟩
theorem Keep3.book {p q r : Nat} {w : World} (hp : p < w.heap.size) (hq : q < w.heap.size) (hr : r < w.heap.size) (W : World) (l : Nat) (o o' : Obj) (hl : w.heap.size ≤ l) (_ : W.heap[l]? = some o) (_ : o.isCells = false) (_ : o.isWalk = false) : Keep3 p q r W (W.putObj l o') :=
  ⟨World.putObj_heap_other (by omega), World.putObj_heap_other (by omega), World.putObj_heap_other (by omega)⟩
theorem At.same {w w' : World} {b : Nat} {cs : Array Value} {t : TypeId} (h : At w b cs t) (e : w'.heap[b]? = w.heap[b]?) : At w' b cs t := by unfold At at *; rw [e]; exact h
theorem range'_succ_snoc (a k : Nat) : List.range' a (k + 1) = List.range' a k ++ [a + k] := by rw [List.range'_concat]; simp

/-- What spans tells of a row y. -/
def rowV (pc W n x0 x1 : Nat) {H : Nat} (y : Fin H) : Array Value := #[.int .i64 (y.1 : Int), .slice (some ⟨pc, y.1 * W + x0, none⟩) (x1 - x0) (n - (y.1 * W + x0))]

set_option maxRecDepth 100000 in
set_option maxHeartbeats 2000000 in
theorem spansIter (n : Nat) (hn : 1 ≤ n) (l Bm Br tm tr pm pc W H N C x0 x1 y0 y1 : Nat) (J Jx : List (Fin H) → World → Prop) (hx : y0 < y1 → x0 < x1) (hw : x1 ≤ W) (hy : y0 ≤ y1) (hh : y1 ≤ H)
    (hA : ∀ pre A B, J pre A → A.grownBy B none → J pre B)
    (hY : ∀ pre y W1, J pre W1 → pre.length < y1 - y0 → YieldAt Fence.wide (n - 1) Tryz.prog l (rowV pc W C x0 x1 y) W1 fun e W' =>
      (e = .returned (.bool true) ∧ J (pre ++ [y]) W' ∧ Keep3 pm Bm Br W1 W') ∨ (e = .returned (.bool false) ∧ Jx (pre ++ [y]) W'))
    (V : World) (hd : At V pm #[.int .i64 W, .int .i64 H, .slice (some ⟨pc, 0, none⟩) N C] 173) (hC : N ≤ C) (hl : N = W * H) (hW : W ≤ 256) (hH : H ≤ 256) (hbm : At V Bm #[.pointer (some ⟨pm, 0, none⟩)] tm) (hbr : At V Br #[.int .i64 x0, .int .i64 y0, .int .i64 x1, .int .i64 y1] tr) (h0 : J [] V) :
    CallsIn Fence.wide n Tryz.prog 156 #[.func (.yield l) #[] #[], .pointer (some ⟨Br, 0, none⟩), .pointer (some ⟨Bm, 0, none⟩)] V fun e W' => (∃ v, e = .returned v) ∧
      ((∃ ys : List (Fin H), ys.map (·.1) = List.range' y0 (y1 - y0) ∧ J ys W') ∨ (∃ pre : List (Fin H), pre.map (·.1) <+: List.range' y0 (y1 - y0) ∧ Jx pre W')) := by
  refine callsIn_of_wp Tryz.func156 rfl trivial ?_ rfl
  simp only [Tryz.ntmps156, List.size_toArray, List.length_cons, List.length_nil, Nat.reduceAdd, Nat.reduceSub, Array.replicate_succ, Array.replicate_zero, List.push_toArray, List.append_toArray, List.nil_append, List.cons_append]
  have b1 : V.cell? ⟨Br, 1, none⟩ = some (.int .i64 y0) := hbr.cell 1
  gi_wp2
  clear b1
  gi_loopw [4] (fun i wr => ∃ (y : Nat) (pre : List (Fin H)), y0 ≤ y ∧ y ≤ y1 ∧ i = .int .i64 y ∧ pre.map (·.1) = List.range' y0 (y - y0) ∧ J pre wr ∧ Keep3 pm Bm Br V wr)
    (fun i _ => y1 - (intOf i).toNat)
  case atStart => exact ⟨y0, [], Nat.le_refl _, hy, rfl, by simp, h0, Keep3.refl _ _ _ _⟩
  case round =>
    obtain ⟨y, pre, hy0, hy1, rfl, hpre, hJ, hK⟩ := hrel
    have R := hbr.same hK.2.2
    have M := hbm.same hK.2.1
    have D := hd.same hK.1
    have r0 : wr.cell? ⟨Br, 0, none⟩ = some (.int .i64 x0) := R.cell 0
    have r2 : wr.cell? ⟨Br, 2, none⟩ = some (.int .i64 x1) := R.cell 2
    have r3 : wr.cell? ⟨Br, 3, none⟩ = some (.int .i64 y1) := R.cell 3
    have m0 : wr.cell? ⟨Bm, 0, none⟩ = some (.pointer (some ⟨pm, 0, none⟩)) := M.cell 0
    have hlen : pre.length = y - y0 := by have := congrArg List.length hpre; simpa using this
    by_cases hlt : y < y1
    · have cs := span0 wr D hC hl hW hH y x0 x1 (by omega) (hx (by omega)) hw
      obtain ⟨v, hv⟩ : ∃ v, v = Value.slice (some ⟨pc, y * W + x0, none⟩) (x1 - x0) (C - (y * W + x0)) := ⟨_, rfl⟩
      have rv : rowV pc W C x0 x1 (⟨y, by omega⟩ : Fin H) = #[.int .i64 y, v] := by rw [hv]; rfl
      rw [← hv] at cs
      clear hv
      have hYY := fun q => hY pre ⟨y, by omega⟩ (wr.drewN q) (hA _ _ _ hJ ((Gr.refl wr).drewN q |>.by none)) (by omega)
      rw [rv] at hYY
      have hpre' := Lib.hid hpre
      clear hpre rv hY
      have hlen' := Lib.hid hlen
      clear hlen
      gi_wp2_with (refine ⟨trivial, ?_⟩; gi_at_call 157; refine (callsIn_wide.2 cs).mono ?_; rintro e w' ⟨rfl, q, rfl⟩; obtain ⟨fn, tmps, assign, body, hyy, hR⟩ := hYY q)
      refine hR.mono ?_
      rintro e W3 (⟨rfl, hJ3, hk3⟩ | ⟨rfl, hJx3⟩)
      · gi_wp2
        go_roundw
        case rel => exact ⟨y + 1, pre ++ [⟨y, by omega⟩], by omega, by omega, by simp, by rw [List.map_append, hpre'.out, show y + 1 - y0 = (y - y0) + 1 by omega, range'_succ_snoc]; simp; omega, hJ3, hK.trans hk3⟩
        case measure => simp [intOf]; omega
      · gi_wp2
        refine bodyPost_ret (results_none rfl _ _ _) rfl ?_
        refine ⟨⟨_, rfl⟩, .inr ⟨pre ++ [⟨y, by omega⟩], ?_, hJx3⟩⟩
        rw [List.map_append, hpre'.out]
        refine ⟨List.range' (y + 1) (y1 - (y + 1)), ?_⟩
        rw [show y1 - y0 = (y - y0) + (1 + (y1 - (y + 1))) by omega, ← List.range'_append_1, ← List.range'_append_1]
        simp
        omega
    · obtain rfl : y = y1 := by omega
      gi_wp2
      go_end0
      exact ⟨⟨_, rfl⟩, .inl ⟨pre, hpre, hJ⟩⟩

theorem spansStops (n : Nat) (hn : 1 ≤ n) (Bm Br tm tr pm pc W H N C x0 x1 y0 y1 : Nat) (hx : y0 < y1 → x0 < x1) (hw : x1 ≤ W) (hy : y0 ≤ y1) (hh : y1 ≤ H)
    (V : World) (hd : At V pm #[.int .i64 W, .int .i64 H, .slice (some ⟨pc, 0, none⟩) N C] 173) (hC : N ≤ C) (hl : N = W * H) (hW : W ≤ 256) (hH : H ≤ 256) (hbm : At V Bm #[.pointer (some ⟨pm, 0, none⟩)] tm) (hbr : At V Br #[.int .i64 x0, .int .i64 y0, .int .i64 x1, .int .i64 y1] tr) :
    SeqStopsK Fence.wide n Tryz.prog 156 #[.pointer (some ⟨Br, 0, none⟩), .pointer (some ⟨Bm, 0, none⟩)] (fun y : Fin H => rowV pc W C x0 x1 y) (Keep3 pm Bm Br)
      (fun ys => ys.map (·.1) = List.range' y0 (y1 - y0)) (fun pre => pre.map (·.1) <+: List.range' y0 (y1 - y0)) (y1 - y0) V := fun l J Jx W' hW' hJ _ hY h0 =>
  spansIter n hn l Bm Br tm tr pm pc W H N C x0 x1 y0 y1 J Jx hx hw hy hh (fun pre A B h hg => hJ pre A B none h hg (fun r e => by cases e)) hY W'
    (hd.same (hW'.block _ hd.lt)) hC hl hW hH (hbm.same (hW'.block _ hbm.lt)) (hbr.same (hW'.block _ hbr.lt)) h0

end Go.Proofs.YtablogiielclaaaGreat
namespace Go.Proofs.YtablogiielclaaaGreat
open Go.RowKit Go.Sort Go.Shelf Go.Deep

/-- No operation of a region is a defer statement. -/
def noDefer (ops : Array Oper) : Bool := ops.all fun o => match o.op with | .defer _ => false | _ => true
theorem noDefer_spec {ops : Array Oper} (h : noDefer ops = true) {i : Nat} {o : Oper} (ho : ops[i]? = some o) : ∀ c, o.op ≠ .defer c := fun c hc => by
  have h1 := Array.all_eq_true.1 h i (by exact (Array.getElem?_eq_some_iff.1 ho).1)
  rw [(Array.getElem?_eq_some_iff.1 ho).2, hc] at h1
  cases h1
/-- An operation's rule as anywhere is its rule in a round. -/
theorem rows_wide {n : Nat} {P : Program} {row : String} {args : Array Value} {w : World} {R : Value → World → Prop} (h : Rows P row args w R) : RowsIn Fence.wide n P row args w R := by
  intro c cs _
  obtain ⟨v, w', r, s⟩ := h c cs
  exact ⟨v, w', r, stepsIn_wide.2 s⟩
theorem wpOp_round {n l : Nat} {P : Program} {ops : Array Oper} {Q : Exit → Act → World → Prop} (hnd : noDefer ops = true) (hno : ¬ LetsOut Q) {i : Nat} {K : Act → World → Prop} {a : Act} {w : World}
    (hr : ∀ row args w' R, Rows P row args w' R → RowsIn Fence.wide (n - 1) P row args w' R) (h : wpOp P ops Q i K a w) : wpOpIn (Fence.wide.inRound l) n P ops Q i K a w := by
  unfold wpOp at h
  unfold wpOpIn
  cases ho : ops[i]? with
  | none => rw [ho] at h; exact h
  | some o =>
    rw [ho] at h
    dsimp only at h ⊢
    by_cases hw : Region.wanted o (yielded ops a.tmps) = true
    · rw [if_pos hw] at h ⊢
      rcases h with h | h
      · refine ⟨fun _ _ => trivial, ?_⟩
        rw [show (Fence.wide.inRound l).round = some l from rfl, Oper.semAt_some l _ _ (noDefer_spec hnd ho)]
        unfold Oper.wp at h
        generalize (execOp a.eval o).run P w = r at *
        cases r with
        | ok x w' =>
          cases x <;> simp only [Oper.upon] at h <;> simp only [Oper.uponIn] <;> first
            | exact h
            | exact h.elim
            | exact ⟨fun hd => (by cases hd), (callsIn_wide (n := n - 1)).2 h⟩
            | exact ⟨fun hd => (by cases hd), hr _ _ _ _ h⟩
        | halt x w' => cases x <;> simp only [Oper.upon] at h <;> simp only [Oper.uponIn] <;> first | exact h | exact h.elim
      · exact (hno h.2).elim
    · rw [if_neg hw] at h ⊢
      exact ⟨fun _ _ => trivial, h⟩
theorem wpAny_round {n l : Nat} {P : Program} {md : Region.Mode} {ops : Array Oper} {Q : Exit → Act → World → Prop} (hnd : noDefer ops = true) (hno : ¬ LetsOut Q) : ∀ (fuel : Nat) (listed : Array Bool) (a : Act) (w : World),
    wpAny P md ops Q fuel listed a w → wpAnyIn (Fence.wide.inRound l) n P md ops Q fuel listed a w
  | 0, _, _, _, h => h
  | fuel + 1, _, _, _, h => ⟨h.1, fun i hi => wpOpIn_mono (fun a' w' h' => wpAny_round hnd hno fuel _ a' w' h') (wpOp_round hnd hno (fun _ _ _ _ h => rows_wide h) (h.2 i hi))⟩
/-- A region that draws, in a round: from the walk as anywhere. -/
theorem wpIn_region_round {n l : Nat} {P : Program} {ops : Array Oper} {Q : Exit → Act → World → Prop} (S : World → Prop) {id : Nat} {a : Act} {w : World} (hm : P.follows .mixedOrders = true) (hnd : noDefer ops = true) (hno : ¬ LetsOut Q)
    (h : wpAnyH P .any ops Q S ops.size (Array.replicate ops.size false) a w.drew) : (Code.region id ops true).wpIn (Fence.wide.inRound l) n P Q a w :=
  wpIn_region_any hm (wpAny_round hnd hno _ _ _ _ (wpAny_of_held _ _ _ _ h))

/-- The same for a region that only reads. -/
theorem wpIn_region_round_quiet {n l : Nat} {P : Program} {ops : List Oper} {Q : Exit → Act → World → Prop} {id : Nat} {a : Act} {w : World} (hm : P.follows .mixedOrders = true) (hB : Region.lexB .any ops.toArray = true) (hnd : noDefer ops.toArray = true) (hno : ¬ LetsOut Q)
    (h : wpQuiet P ops.toArray (fun w' => ∃ n, w' = w.drewN n) (fun a' => ∀ w', (∃ n, w' = w.drewN n) → Q .normal a' w') ops a) : (Code.region id ops.toArray true).wpIn (Fence.wide.inRound l) n P Q a w := by
  simp only [Region.lexB, Bool.and_eq_true] at hB
  refine wpIn_region_any hm (wpAny_round hnd hno _ _ _ _ (wpAny_of_quiet (C := fun w' => ∃ n, w' = w.drewN n) (Q := fun a' => ∀ w', (∃ n, w' = w.drewN n) → Q .normal a' w') (fun _ w' hw' h => h w' hw') _ _ _ _ ⟨1, rfl⟩ ?_))
  have := wpAnyQ_lex (C := fun w' => ∃ n, w' = w.drewN n) (md := .any) hB.1 ops.toArray.toList 0 (Array.replicate ops.toArray.size false) a (by simp) (by simpa using hB.2) (by simpa using h)
  simpa using this

end Go.Proofs.YtablogiielclaaaGreat

namespace Go.Proofs.YtablogiielclaaaGreat
open Go.RowKit Go.Sort Go.Shelf

attribute [local go_sem] Oper.semAt_some

/-- Values put in from place k on. -/
def putRun : List Int → Nat → List Int → List Int
  | L, _, [] => L
  | L, k, v :: vs => putRun (L.set k v) (k + 1) vs
theorem putRun_len : ∀ (vs L : List Int) (k : Nat), (putRun L k vs).length = L.length
  | [], _, _ => rfl
  | v :: vs, L, k => by unfold putRun; rw [putRun_len vs]; simp
theorem putRun_snoc : ∀ (vs L : List Int) (k : Nat) (v : Int), putRun L k (vs ++ [v]) = (putRun L k vs).set (k + vs.length) v
  | [], L, k, v => by simp [putRun]
  | u :: vs, L, k, v => by
    show putRun (L.set k u) (k + 1) (vs ++ [v]) = (putRun (L.set k u) (k + 1) vs).set (k + (vs.length + 1)) v
    rw [putRun_snoc vs]; congr 1; omega
theorem putRun_get : ∀ (vs L : List Int) (k i : Nat), (putRun L k vs)[i]? = if k ≤ i ∧ i < k + vs.length ∧ i < L.length then vs[i - k]? else L[i]?
  | [], L, k, i => by
    rw [if_neg (by simp; omega)]; rfl
  | v :: vs, L, k, i => by
    show (putRun (L.set k v) (k + 1) vs)[i]? = _
    rw [putRun_get vs]
    simp only [List.length_set, List.length_cons]
    by_cases h : k + 1 ≤ i ∧ i < k + 1 + vs.length ∧ i < L.length
    · rw [if_pos h, if_pos (by omega), show i - k = (i - (k + 1)) + 1 by omega]; rfl
    · rw [if_neg h, List.getElem?_set]
      by_cases h2 : k = i
      · subst h2
        by_cases h3 : k < L.length
        · simp [h3]
        · simp [h3]
      · rw [if_neg h2, if_neg (by omega)]

/-- Rows y of W colors, from x0 up to x1, that are filled. -/
def fillR (W x0 x1 : Nat) (c : Int) (L : List Int) (ys : List Nat) : List Int := ys.foldl (fun L y => putRun L (y * W + x0) (List.replicate (x1 - x0) c)) L
theorem fillR_len (W x0 x1 : Nat) (c : Int) : ∀ (ys : List Nat) (L : List Int), (fillR W x0 x1 c L ys).length = L.length
  | [], _ => rfl
  | y :: ys, L => by
    show (fillR W x0 x1 c (putRun L _ _) ys).length = _
    rw [fillR_len W x0 x1 c ys, putRun_len]
theorem fillR_snoc (W x0 x1 : Nat) (c : Int) (ys : List Nat) (L : List Int) (y : Nat) : fillR W x0 x1 c L (ys ++ [y]) = putRun (fillR W x0 x1 c L ys) (y * W + x0) (List.replicate (x1 - x0) c) := by simp [fillR]

theorem ownAt {β : Type} (B b : Nat) (cs : β → Array Value) (t : TypeId) : OwnFrom B (fun s W => At W b (cs s) t) := fun s X Y row hs hg hr =>
  hs.kept hg (fun e => by obtain ⟨_, o, ho, hc⟩ := hr b e.symm; rw [show X.heap[b]? = _ from hs] at ho; cases ho; cases hc)
theorem ownImg {β : Type} (B pm pc W H : Nat) (L : β → List Int) : OwnFrom B (fun s V => Img V pm pc W H (L s)) := fun s X Y row hs hg hr =>
  hs.kept hg (fun e => by obtain ⟨_, o, ho, hc⟩ := hr pm e.symm; rw [show X.heap[pm]? = _ from hs.hd] at ho; cases ho; cases hc)
    (fun e => by obtain ⟨_, o, ho, hc⟩ := hr pc e.symm; rw [show X.heap[pc]? = _ from hs.cs] at ho; cases ho; cases hc)
theorem ownBy {β : Type} {B : Nat} {w0 : World} (row0 : Option Nat) (h : w0.heap.size ≤ B) : OwnFrom B (fun (_ : β) V => w0.grownBy V row0) := fun _ X Y row hs hg hr =>
  ⟨hg.os.trans hs.os, hg.tape.trans hs.tape, hg.output.trans hs.output, Nat.le_trans hs.size hg.size, fun k hk hne => (hg.block k (Nat.lt_of_lt_of_le hk hs.size) (fun e => by have := (hr k e.symm).1; omega)).trans (hs.block k hk hne)⟩

theorem then_false {K : Act → World → Prop} {Q : Exit → Act → World → Prop} : ∀ e a w, Exit.then K (fun _ _ _ => False) e a w → Exit.then K Q e a w := by
  intro e a w h
  cases e <;> first | exact h | exact h.elim
/-- A block that was not there may be turned. -/
theorem by_row {a b c : World} {row : Option Nat} {r : Nat} (h : a.grownBy b row) (g : b.grownBy c (some r)) (hr : a.heap.size ≤ r) : a.grownBy c row :=
  ⟨g.os.trans h.os, g.tape.trans h.tape, g.output.trans h.output, Nat.le_trans h.size g.size, fun k hk hne => (g.block k (Nat.lt_of_lt_of_le hk h.size) (fun e => by cases e; omega)).trans (h.block k hk hne)⟩
theorem cells4 {w : World} {b : Nat} {v0 v1 v2 v3 : Value} {t : TypeId} (h : At w b #[v0, v1, v2, v3] t) : w.cell? ⟨b, 0, none⟩ = some v0 ∧ w.cell? ⟨b, 1, none⟩ = some v1 ∧ w.cell? ⟨b, 2, none⟩ = some v2 ∧ w.cell? ⟨b, 3, none⟩ = some v3 := ⟨h.cell 0, h.cell 1, h.cell 2, h.cell 3⟩
theorem free4 {w : World} {b : Nat} {cs : Array Value} {t : TypeId} (h : At w b cs t) : w.frozen? ⟨b, 0, none⟩ = false ∧ w.frozen? ⟨b, 1, none⟩ = false ∧ w.frozen? ⟨b, 2, none⟩ = false ∧ w.frozen? ⟨b, 3, none⟩ = false := ⟨h.free 0, h.free 1, h.free 2, h.free 3⟩

set_option maxRecDepth 100000 in
set_option maxHeartbeats 2000000 in
theorem fill1 {pm pc W H : Nat} {L : List Int} (w : World) (hI : Img w pm pc W H L) (a b c d : Int) (q : Int) (hq : C32 q) (hm : mayC q = true) (x0 x1 y0 y1 : Nat) (hcut : cutR a b c d 0 0 W H = ⟨x0, y0, x1, y1⟩) (hx0 : x0 ≤ x1) (hx : y0 < y1 → x0 < x1) (hw : x1 ≤ W) (hy : y0 ≤ y1) (hh : y1 ≤ H) :
    Calls Tryz.prog 31 #[.pointer (some ⟨pm, 0, none⟩), .agg #[.int .i64 a, .int .i64 b, .int .i64 c, .int .i64 d], .int .u32 q] w
      (fun e w' => e = .returned (.int .i64 (areaI x0 y0 x1 y1)) ∧ w.grownBy w' (some pc) ∧ Img w' pm pc W H (fillR W x0 x1 q L (List.range' y0 (y1 - y0)))) := by
  have cm := fun w => cmay1 q w hq
  rw [hm] at cm
  have cc := fun w => cut1 a b c d 0 0 W H w
  rw [hcut] at cc
  dsimp only at cc
  clear hcut
  have mixed : Tryz.prog.follows .mixedOrders = true := by kernel_rfl
  refine (callsIn_wide (n := 5)).1 ?_
  refine callsIn_of_wp_marks Tryz.func31 rfl trivial ?_ rfl
  simp only [Tryz.ntmps31, List.size_toArray, List.length_cons, List.length_nil, Nat.reduceAdd, Nat.reduceSub, Array.replicate_succ, Array.replicate_zero, List.push_toArray, List.append_toArray, List.nil_append, List.cons_append]
  gi_wp2_with fail
  refine ⟨trivial, ?_⟩
  refine (callsIn_wide.2 (cm _)).mono ?_
  rintro e w1 ⟨rfl, g1⟩
  have I1 := hI.gr (((Gr.refl w).alloc _).alloc _ |>.trans g1)
  have r1 := (((At.new w #[.int .i64 a, .int .i64 b, .int .i64 c, .int .i64 d] 31).alloc (.cells #[.int .u32 q] 52)).gr g1)
  have q1 := (At.newAt (w := w.alloc (.cells #[.int .i64 a, .int .i64 b, .int .i64 c, .int .i64 d] 31)) (n := w.heap.size + 1) (by simp) #[.int .u32 q] 52).gr g1
  have G1 := ((((Gr.refl w).alloc _).alloc _).trans g1)
  gi_wp2
  rename_i K hK
  have rest : ∀ V : World, At V w.heap.size #[.int .i64 x0, .int .i64 y0, .int .i64 x1, .int .i64 y1] 31 → At V (w.heap.size + 1) #[.int .u32 q] 52 → Gr w V →
      K { tmps := #[.pointer (some ⟨pm, 0, none⟩), .agg #[.int .i64 a, .int .i64 b, .int .i64 c, .int .i64 d], .int .u32 q, undef, .pointer (some ⟨w.heap.size, 0, none⟩), .pointer (some ⟨w.heap.size + 1, 0, none⟩), .int .i64 0, undef, undef, undef, .int .u32 q, .bool true, .bool false,
          .agg #[.int .i64 a, .int .i64 b, .int .i64 c, .int .i64 d], .pointer (some ⟨pm, 0, none⟩), .agg #[.int .i64 0, .int .i64 0, .int .i64 W, .int .i64 H], .agg #[.int .i64 x0, .int .i64 y0, .int .i64 x1, .int .i64 y1],
          undef, undef, undef, undef, undef, undef, undef, undef, undef, undef, undef, undef, undef, undef, undef, undef, undef], defers := [] } V := by
    intro V R4 q4 G4
    refine hK _ _ ?_
    clear hK r1 q1 I1 G1 g1 cm cc mixed
    have I4 := hI.gr G4
    have hlt4 := hI.hd.lt
    have hlt5 := hI.cs.lt
    obtain ⟨t0, t1, t2, t3⟩ := cells4 R4
    gi_wp2_with fail
    refine ⟨trivial, ?_⟩
    refine (callsIn_wide.2 (spans1 _ _ _ _ _ _)).mono ?_
    rintro e w5 ⟨rfl, rfl⟩
    clear t0 t1 t2 t3
    have bm := (At.new V #[.pointer (some ⟨pm, 0, none⟩)] 58).alloc (.cells #[.int .i64 x0, .int .i64 y0, .int .i64 x1, .int .i64 y1] 31)
    have br := At.newAt (w := V.alloc (.cells #[.pointer (some ⟨pm, 0, none⟩)] 58)) (n := V.heap.size + 1) (by simp) #[.int .i64 x0, .int .i64 y0, .int .i64 x1, .int .i64 y1] 31
    have I5 := (I4.gr ((Gr.refl V).alloc (.cells #[.pointer (some ⟨pm, 0, none⟩)] 58))).gr ((Gr.refl _).alloc (.cells #[.int .i64 x0, .int .i64 y0, .int .i64 x1, .int .i64 y1] 31))
    have R5 := (R4.gr ((Gr.refl V).alloc (.cells #[.pointer (some ⟨pm, 0, none⟩)] 58))).gr ((Gr.refl _).alloc (.cells #[.int .i64 x0, .int .i64 y0, .int .i64 x1, .int .i64 y1] 31))
    have q5 := (q4.gr ((Gr.refl V).alloc (.cells #[.pointer (some ⟨pm, 0, none⟩)] 58))).gr ((Gr.refl _).alloc (.cells #[.int .i64 x0, .int .i64 y0, .int .i64 x1, .int .i64 y1] 31))
    have G5 := (G4.alloc (.cells #[.pointer (some ⟨pm, 0, none⟩)] 58)).alloc (.cells #[.int .i64 x0, .int .i64 y0, .int .i64 x1, .int .i64 y1] 31)
    have hs4 := G4.size
    have hs5 : ((V.alloc (.cells #[.pointer (some ⟨pm, 0, none⟩)] 58)).alloc (.cells #[.int .i64 x0, .int .i64 y0, .int .i64 x1, .int .i64 y1] 31)).heap.size = V.heap.size + 2 := by simp
    have hlr := R4.lt
    gi_wp2
    obtain ⟨U, hU⟩ : ∃ U, U = (V.alloc (.cells #[.pointer (some ⟨pm, 0, none⟩)] 58)).alloc (.cells #[.int .i64 x0, .int .i64 y0, .int .i64 x1, .int .i64 y1] 31) := ⟨_, rfl⟩
    rw [← hU] at bm br I5 R5 q5 G5 hs5 ⊢
    clear hU
    refine wpIn_rangeFunc_ownG rfl (by omega) (gf := 156) (lb := #[.pointer (some ⟨V.heap.size + 1, 0, none⟩), .pointer (some ⟨V.heap.size, 0, none⟩)]) rfl trivial (enters_of Tryz.func156 (by kernel_rfl) rfl)
      (spansStops (5 - 1) (by omega) V.heap.size (V.heap.size + 1) _ _ pm pc W H L.length L.length x0 x1 y0 y1 hx hw hy hh U I5.hd (Nat.le_refl _) I5.len I5.w2 I5.h2 bm br)
      (fun h k => h.trans k) (Keep3.book (by omega) (by omega) (by omega)) (Below.refl _ _) (fun _ => rfl)
      (fun pre V' => Img V' pm pc W H (fillR W x0 x1 q L (pre.map (·.1))) ∧ At V' w.heap.size #[.int .i64 x0, .int .i64 y0, .int .i64 x1, .int .i64 y1] 31 ∧ At V' (w.heap.size + 1) #[.int .u32 q] 52 ∧ w.grownBy V' (some pc))
      (fun _ _ _ => False)
      ((ownImg _ _ _ _ _ _).and ((ownAt _ _ _ _).and ((ownAt _ _ _ _).and (ownBy _ (by omega)))))
      (fun _ _ _ _ _ hs _ _ => hs)
      ⟨I5, R5, q5, G5.by _⟩
      (fun x => { tmps := #[.pointer (some ⟨pm, 0, none⟩), .agg #[.int .i64 a, .int .i64 b, .int .i64 c, .int .i64 d], .int .u32 q, undef, .pointer (some ⟨w.heap.size, 0, none⟩), .pointer (some ⟨w.heap.size + 1, 0, none⟩), .int .i64 0, undef, .slice (some ⟨pc, x.1 * W + x0, none⟩) (x1 - x0) (L.length - (x.1 * W + x0)), undef, .int .u32 q, .bool true, .bool false,
          .agg #[.int .i64 a, .int .i64 b, .int .i64 c, .int .i64 d], .pointer (some ⟨pm, 0, none⟩), .agg #[.int .i64 0, .int .i64 0, .int .i64 W, .int .i64 H], .agg #[.int .i64 x0, .int .i64 y0, .int .i64 x1, .int .i64 y1],
          .pointer (some ⟨pm, 0, none⟩), .agg #[.int .i64 x0, .int .i64 y0, .int .i64 x1, .int .i64 y1], .func (.func 156) #[] #[.pointer (some ⟨V.heap.size + 1, 0, none⟩), .pointer (some ⟨V.heap.size, 0, none⟩)], .int .i64 (x.1 : Int), .slice (some ⟨pc, x.1 * W + x0, none⟩) (x1 - x0) (L.length - (x.1 * W + x0)),
          undef, undef, undef, undef, undef, undef, undef, undef, undef, undef, undef, undef], defers := [] }) ?assign ?body ?done ?stop
    case assign =>
      intro l x W' K' hK'
      dsimp only [rowV]
      gi_wp2
      exact hK'
    case body =>
      rintro l pre x W' ⟨hi, hr, hc, hb⟩ hlen
      have hf : fillR W x0 x1 q L ((pre ++ [x]).map (·.1)) = putRun (fillR W x0 x1 q L (pre.map (·.1))) (x.1 * W + x0) (List.replicate (x1 - x0) q) := by rw [List.map_append]; exact fillR_snoc _ _ _ _ _ _ _
      have hp : x.1 * W + x0 + (x1 - x0) ≤ L.length := by
        have := row_of (show x1 - 1 < W by omega) x.2
        rw [← hI.len] at this
        have := hx (by omega)
        omega
      have hFl : (fillR W x0 x1 q L (pre.map (·.1))).length = L.length := fillR_len _ _ _ _ _ _
      have hle := area_le hI.w2 hI.h2
      rw [← hI.len] at hle
      generalize fillR W x0 x1 q L (pre.map (·.1)) = F at *
      generalize L.length = n at *
      generalize x.1 * W + x0 = p at *
      obtain ⟨m, hm'⟩ : ∃ m, m = x1 - x0 := ⟨_, rfl⟩
      rw [← hm'] at hf hp ⊢
      clear hm'
      obtain ⟨cc, hcc⟩ : ∃ cc, cc = n - p := ⟨_, rfl⟩
      have hmc : m ≤ cc := by omega
      rw [← hcc]
      clear hcc
      have hf' := Lib.hid hf
      have hFl' := Lib.hid hFl
      clear hf hFl
      gi_wp2
      gi_loopw [24] (fun i wr => ∃ k : Nat, k ≤ m ∧ i = .int .i64 k ∧ Img wr pm pc W H (putRun F p (List.replicate k q)) ∧ At wr w.heap.size #[.int .i64 x0, .int .i64 y0, .int .i64 x1, .int .i64 y1] 31 ∧ At wr (w.heap.size + 1) #[.int .u32 q] 52 ∧ w.grownBy wr (some pc) ∧ KeepsOthers W' wr ∧ Keep3 pm V.heap.size (V.heap.size + 1) W' wr)
        (fun i _ => m - (intOf i).toNat)
      case atStart => exact ⟨0, Nat.zero_le _, rfl, hi, hr, hc, hb, KeepsOthers.refl _, Keep3.refl _ _ _ _⟩
      case round =>
        obtain ⟨k, hk, rfl, Ik, rk, qk, bk, ok, kk⟩ := hrel
        by_cases hlt : k < m
        · obtain ⟨old, hold⟩ : ∃ old, (putRun F p (List.replicate k q))[p + k]? = some old := list_at (by rw [putRun_len, hFl'.out]; omega)
          have c1 := Ik.at hold
          have f1 := Ik.cs.free (p + k)
          have c2 : wr.cell? ⟨w.heap.size + 1, 0, none⟩ = some (.int .u32 q) := qk.cell 0
          clear hold
          gi_wp2
          go_roundw
          case rel =>
            refine ⟨k + 1, by omega, by simp, ?_, rk.far (p := ⟨pc, p + k, none⟩) (by simp; omega) _, qk.far (p := ⟨pc, p + k, none⟩) (by simp; omega) _, by_set (p := ⟨pc, p + k, none⟩) bk _, ok.trans (KeepsOthers.setCell _ _ _), kk.trans ⟨Below.heap_setCell _ _ _ _ (by simp; exact hI.ne), Below.heap_setCell _ _ _ _ (by simp; omega), Below.heap_setCell _ _ _ _ (by simp; omega)⟩⟩
            have := Ik.set (p + k) q
            rw [List.replicate_succ', putRun_snoc, List.length_replicate]
            exact this
          case measure => simp [intOf]; omega
        · obtain rfl : k = m := by omega
          gi_wp2
          exact ⟨ok.from _, kk, by rw [hf'.out]; exact Ik, rk, qk, bk⟩
    case done =>
      rintro D ys W' hD hys ⟨hi, hr, hc, hb⟩ hK'
      have hys' := Lib.hid hys
      clear hys
      obtain ⟨t0, t1, t2, t3⟩ := cells4 hr
      have hmay : mayB x0 y0 x1 y1 = true := by
        have := hI.w2; have := hI.h2
        rcases Nat.lt_or_ge y0 y1 with h | h
        · have := hx h; simp [mayB]; omega
        · simp [mayB]; omega
      gi_wp2_with fail
      refine ⟨trivial, ?_⟩
      refine (callsIn_wide.2 (area1 _ _ _ _ _ hmay)).mono ?_
      rintro e w6 ⟨rfl, g6⟩
      have hK6 : w6.heap[D]? = some (.deferred (some [])) := (g6.below.block D (Array.getElem?_eq_some_iff.1 hK').1).trans hK'
      gi_wp2
      refine ⟨by simp, .inl ⟨_, _, rfl, run_takeDeferred hK6, ?_⟩⟩
      have hgp := grownBy_putObj' w6 D (.deferred none)
      refine ⟨_, results_tmp rfl _ _ _, rfl, ?_, ?_⟩
      · exact by_row (by_gr hb g6) hgp (by omega)
      · rw [← hys'.out]
        exact (hi.gr g6).kept hgp (by simp; omega) (by simp; omega)
    case stop =>
      rintro D c pre W' _ _ h _
      exact h.elim
  obtain ⟨t0, t1, t2, t3⟩ := cells4 r1
  have bx := fun (V : World) (h : Img V pm pc W H L) => box1 V h
  refine wpIn_mono (Q := Exit.then K (fun _ _ _ => False)) ?_ then_false
  gi_region_with_o (first | (refine ⟨trivial, ?_⟩; gi_at_call 100; refine (callsIn_wide.2 (bx _ (I1.gr (Gr.refl _).drew))).mono ?_; rintro e w2 ⟨rfl, g2⟩; have R2 := r1.drew.gr g2; obtain ⟨a0, a1, a2, a3⟩ := cells4 R2) | (refine ⟨trivial, ?_⟩; gi_at_call 102; refine (callsIn_wide.2 (cc _)).mono ?_; rintro e w3 ⟨rfl, g3⟩; have R3 := R2.gr g3; obtain ⟨b0, b1, b2, b3⟩ := cells4 R3; obtain ⟨f0, f1, f2, f3⟩ := free4 R3))
  all_goals
    refine rest _ (R3.put4 (.int .i64 x0) (.int .i64 y0) (.int .i64 x1) (.int .i64 y1)) ((((((q1.drew).gr g2).gr g3).far (p := ⟨w.heap.size, 0, none⟩) (by simp) (.int .i64 x0)).far (p := ⟨w.heap.size, 1, none⟩) (by simp) (.int .i64 y0)).far (p := ⟨w.heap.size, 2, none⟩) (by simp) (.int .i64 x1) |>.far (p := ⟨w.heap.size, 3, none⟩) (by simp) (.int .i64 y1)) ?_
    exact (((((G1.drew.trans g2).trans g3).setCell (p := ⟨w.heap.size, 0, none⟩) (Nat.le_refl _) (.int .i64 x0)).setCell (p := ⟨w.heap.size, 1, none⟩) (Nat.le_refl _) (.int .i64 y0)).setCell (p := ⟨w.heap.size, 2, none⟩) (Nat.le_refl _) (.int .i64 x1)).setCell (p := ⟨w.heap.size, 3, none⟩) (Nat.le_refl _) (.int .i64 y1)

end Go.Proofs.YtablogiielclaaaGreat
namespace Go.Proofs.YtablogiielclaaaGreat
open Go.RowKit Go.Sort

theorem Bl.row {a b c : World} {r : Nat} (h : Bl a b) (g : b.grownBy c (some r)) (hr : a.heap.size ≤ r) : Bl a c :=
  ⟨g.os.trans (Below.os h), g.tape.trans (Below.tape h), g.output.trans (Below.output h), Nat.le_trans h.size g.size, fun k hk => (g.block k (Nat.lt_of_lt_of_le hk h.size) (fun e => by cases e; omega)).trans (Below.block h k hk)⟩
theorem Img.bl {w w' : World} {pm pc W H : Nat} {L : List Int} (h : Img w pm pc W H L) (g : Bl w w') : Img w' pm pc W H L := { h with hd := h.hd.bl g, cs := h.cs.bl g }

set_option maxHeartbeats 1000000 in
theorem fill0 (pm : Nat) (w : World) (a b c d : Int) (q : Int) (hq : C32 q) (hm : mayC q = false) :
    Calls Tryz.prog 31 #[.pointer (some ⟨pm, 0, none⟩), .agg #[.int .i64 a, .int .i64 b, .int .i64 c, .int .i64 d], .int .u32 q] w (Rt w (.int .i64 0)) := by
  have cm := fun w => cmay1 q w hq
  rw [hm] at cm
  go_enter Tryz.func31, Tryz.ntmps31
  go_wp2_with fail
  refine (cm _).mono ?_
  rintro e w1 ⟨rfl, g1⟩
  go_wp2
  go_ret
  exact ⟨rfl, (((Gr.refl w).alloc _).alloc _).trans g1⟩

end Go.Proofs.YtablogiielclaaaGreat
namespace Go.Proofs.YtablogiielclaaaGreat
open Go.ChangeShapes Go.WideShapes Go.ChangeAt Go.RowKit Go.Joins Go.Sort Go.Deep

theorem cellsCol : Tryz.prog.cellsOf 52 = 1 := by kernel_rfl
theorem cellsByte : Tryz.prog.cellsOf 5 = 1 := by kernel_rfl
def U32 (n : Int) : Prop := 0 ≤ n ∧ n ≤ 4294967295
theorem U32.of_wf {n : Int} (h : (Lit.int .u32 n).wf = true) : U32 n := by
  simp [Lit.wf, IntKind.min, IntKind.max, IntKind.bits, IntKind.signed] at h
  unfold U32
  omega
def U8 (n : Int) : Prop := 0 ≤ n ∧ n ≤ 255
theorem U8.of_wf {n : Int} (h : (Lit.int .u8 n).wf = true) : U8 n := by
  simp [Lit.wf, IntKind.min, IntKind.max, IntKind.bits, IntKind.signed] at h
  unfold U8
  omega

/-- From cell off of block b on lie these numbers. -/
def RowN (k : IntKind) (w : World) (b off : Nat) (L : List Int) : Prop := ∀ i x, L[i]? = some x → w.cell? ⟨b, off + i, none⟩ = some (.int k x)
/-- A slice of that address reads so. -/
def Ns (k : IntKind) (w : World) (A : Option Addr) (L : List Int) : Prop := L = [] ∨ ∃ b off, A = some ⟨b, off, none⟩ ∧ RowN k w b off L

section
variable {H : Type} {enc : TypeId × Value → H} {w : World} {base : Nat} {spare : Nat → Bool} {held : Bool}
set_option maxRecDepth 100000 in
/-- The argument: a row of numbers that came in. -/
theorem open_nums {k : IntKind} {t e : TypeId} (ht : Tryz.prog.underlying t = some (.slice e)) (he : Tryz.prog.underlying e = some (.int k)) (hc1 : Tryz.prog.cellsOf e = 1) {v : Value} {dd : DataW H} {p : List MemPlace} {b0 : Nat} {r : Reach} (hv : Value.okWide Tryz.prog w r b0 t v) (h : DataW.Trod enc Tryz.prog w base spare held t v dd p) :
    ∃ (A : Option Addr) (cap : Nat) (L : List Int), v = .slice A L.length cap ∧ L.length ≤ cap ∧ cap ≤ maxLen ∧ Ns k w A L ∧ ∀ x ∈ L, (Lit.int k x).wf = true := by
  obtain ⟨a0, len0, cap0, rfl⟩ := okWide_slice ht hv
  obtain ⟨fuel, hf⟩ := h
  rcases open_slice ht hf with ⟨hc, _⟩ | ⟨a, len, cap, m, n, D, Pl, hc, _, hl, hm, hmm, _, hx⟩
  · simp [Value.cells] at hc
    obtain ⟨rfl, rfl, rfl⟩ := hc
    exact ⟨none, 0, [], rfl, Nat.zero_le _, Nat.zero_le _, .inl rfl, by intro r hr; simp at hr⟩
  · simp [Value.cells] at hc
    obtain ⟨rfl, rfl, rfl⟩ := hc
    by_cases hz : len0 = 0
    · subst hz; exact ⟨_, _, [], rfl, Nat.zero_le _, hm, .inl rfl, by intro r hr; simp at hr⟩
    · have hlm : len0 ≤ m := by rw [hmm]; split <;> omega
      have each : ∀ i, i < m → ∃ q : Int, w.cell? (a.add i) = some (Value.int k q) ∧ (Lit.int k q).wf = true := by
        intro i hi
        obtain ⟨cs', h1, h2⟩ := hx i hi
        rw [hc1] at h1
        obtain ⟨_, hlen, hcell⟩ := World.cells?_some h1
        obtain ⟨q, e0, _, wq⟩ := DataW.trod_int he h2
        refine ⟨q, ?_, wq⟩
        have := hcell 0 (by omega)
        rw [add_add, e0] at this
        simpa using this
      obtain ⟨f, hfq⟩ := choose_lt each
      have h0 := (hfq 0 (by omega)).1
      obtain ⟨b, off, spot⟩ := a
      cases spot with
      | some t =>
        simp [Addr.add, World.cell?] at h0
        exfalso
        split at h0 <;> cases h0
      | none =>
        have ad : ∀ i, (⟨b, off, none⟩ : Addr).add i = ⟨b, off + i, none⟩ := fun i => by unfold Addr.add; split <;> simp_all
        refine ⟨some ⟨b, off, none⟩, cap0, (List.range len0).map f, by simp, by simpa using hl, hm, .inr ⟨b, off, rfl, fun k r hk => ?_⟩, fun r hr => ?_⟩
        · have hkl : k < ((List.range len0).map f).length := by
            rcases Nat.lt_or_ge k ((List.range len0).map f).length with h' | h'
            · exact h'
            · rw [List.getElem?_eq_none h'] at hk; cases hk
          simp at hkl
          simp [hkl] at hk
          subst hk
          have hk' := (hfq k (by omega)).1
          rwa [ad] at hk'
        · rw [List.mem_map] at hr
          obtain ⟨k, hk, rfl⟩ := hr
          rw [List.mem_range] at hk
          exact (hfq k (by omega)).2
set_option maxRecDepth 100000 in
theorem open_colors {v : Value} {dd : DataW H} {p : List MemPlace} {b0 : Nat} {r : Reach} (hv : Value.okWide Tryz.prog w r b0 25 v) (h : DataW.Trod enc Tryz.prog w base spare held 25 v dd p) :
    ∃ (A : Option Addr) (cap : Nat) (L : List Int), v = .slice A L.length cap ∧ L.length ≤ cap ∧ cap ≤ maxLen ∧ Ns .u32 w A L ∧ ∀ x ∈ L, C32 x := by
  obtain ⟨A, c, L, h1, h2, h3, h4, h5⟩ := open_nums Tryz.underlying25 Tryz.underlying52 cellsCol hv h
  exact ⟨A, c, L, h1, h2, h3, h4, fun x hx => U32.of_wf (h5 x hx)⟩
set_option maxRecDepth 100000 in
theorem open_bytes {v : Value} {dd : DataW H} {p : List MemPlace} {b0 : Nat} {r : Reach} (hv : Value.okWide Tryz.prog w r b0 89 v) (h : DataW.Trod enc Tryz.prog w base spare held 89 v dd p) :
    ∃ (A : Option Addr) (cap : Nat) (L : List Int), v = .slice A L.length cap ∧ L.length ≤ cap ∧ cap ≤ maxLen ∧ Ns .u8 w A L ∧ ∀ x ∈ L, U8 x := by
  obtain ⟨A, c, L, h1, h2, h3, h4, h5⟩ := open_nums Tryz.underlying89 Tryz.underlying5 cellsByte hv h
  exact ⟨A, c, L, h1, h2, h3, h4, fun x hx => U8.of_wf (h5 x hx)⟩
end

end Go.Proofs.YtablogiielclaaaGreat
namespace Go.Proofs.YtablogiielclaaaGreat
open Go.RowKit Go.Sort Go.Deep

theorem RowN.bl {k : IntKind} {w w' : World} {b off : Nat} {L : List Int} (h : RowN k w b off L) (g : Bl w w') : RowN k w' b off L := fun i x hi =>
  (Below.cell g (World.block_lt_of_cell? w _ (h i x hi))).trans (h i x hi)
theorem RowN.kept {k : IntKind} {w w' : World} {b off : Nat} {L : List Int} {row : Option Nat} (h : RowN k w b off L) (g : w.grownBy w' row) (hne : some b ≠ row) : RowN k w' b off L := fun i x hi =>
  g.cell (h i x hi) hne
theorem RowN.gr {k : IntKind} {w w' : World} {b off : Nat} {L : List Int} (h : RowN k w b off L) (g : Gr w w') : RowN k w' b off L := h.bl g.bl
theorem Ns.bl {k : IntKind} {w w' : World} {A : Option Addr} {L : List Int} (h : Ns k w A L) (g : Bl w w') : Ns k w' A L := by
  rcases h with h | ⟨b, off, h1, h2⟩
  · exact .inl h
  · exact .inr ⟨b, off, h1, h2.bl g⟩
theorem At.rowC {w : World} {b : Nat} {L : List Int} {t : TypeId} (h : At w b (cC L) t) : RowN .u32 w b 0 L := fun i x hi => by
  rw [Nat.zero_add, h.cell i, cC_get, hi]; rfl

/-- Whose colors may all be. -/
def MayL (L : List Int) : Prop := ∀ c ∈ L, C32 c ∧ mayC c = true
theorem get_of {L : List Int} {i : Nat} {x : Int} (h : L[i]? = some x) : x ∈ L ∧ i < L.length := by
  have hl : i < L.length := by
    rcases Nat.lt_or_ge i L.length with h' | h'
    · exact h'
    · rw [List.getElem?_eq_none h'] at h; cases h
  rw [List.getElem?_eq_getElem hl] at h
  cases h
  exact ⟨List.getElem_mem hl, hl⟩

set_option maxHeartbeats 1000000 in
theorem refNew1 (W H : Nat) (w : World) (w2 : W ≤ 256) (h2 : H ≤ 256) :
    Calls Tryz.prog 27 #[.int .i64 W, .int .i64 H] w (fun e w' => ∃ b, e = .returned (.agg #[.int .i64 W, .int .i64 H, .slice (some ⟨b, 0, none⟩) (W * H) (W * H)]) ∧ At w' b (cC (List.replicate (W * H) 0)) 52 ∧ w.heap.size ≤ b ∧ Gr w w') := by
  have hle := area_le w2 h2
  have e1 : IntKind.i64.wrap ((W : Int) * (H : Int)) = ((W * H : Nat) : Int) := by rw [← Int.natCast_mul]; exact IntWalk.i64_in _ (by omega)
  have q1 : wrap64 ((W : Int) * (H : Int)) = ((W * H : Nat) : Int) := by rw [← Int.natCast_mul]; exact w64 (by omega) (by omega)
  generalize W * H = n at *
  have mk := makeC n (by omega)
  generalize List.replicate n (0 : Int) = L at mk ⊢
  have R := (At.new w #[.int .i64 0, .int .i64 0, .slice none 0 0] 27).alloc (.cells (cC L) 52)
  have C := At.newAt (w := w.alloc (.cells #[.int .i64 0, .int .i64 0, .slice none 0 0] 27)) (n := w.heap.size + 1) (by simp) (cC L) 52
  go_enter Tryz.func27, Tryz.ntmps27
  go_wp2
  go_returns
  exact ⟨_, rfl, At.newAt (by simp) _ _, by omega, ((Gr.refl w).alloc _).alloc _⟩

/-- A row y, a place x. -/
theorem div_of {k W H : Nat} (hW : 1 ≤ W) (h : k < W * H) : k % W < W ∧ k / W < H ∧ k / W * W + k % W = k := by
  refine ⟨Nat.mod_lt _ hW, ?_, ?_⟩
  · rw [Nat.div_lt_iff_lt_mul (by omega)]; rw [Nat.mul_comm]; exact h
  · rw [Nat.mul_comm]; exact Nat.div_add_mod k W

set_option maxHeartbeats 1000000 in
theorem refAt1 {W H b c : Nat} {L : List Int} (w : World) (hR : RowN .u32 w b 0 L) (hl : L.length = W * H) (w2 : W ≤ 256) (h2 : H ≤ 256) (i j : Nat) (hi : i < W) (hj : j < H) (x : Int) (hx : L[j * W + i]? = some x) :
    Calls Tryz.prog 147 #[.agg #[.int .i64 W, .int .i64 H, .slice (some ⟨b, 0, none⟩) L.length c], .int .i64 i, .int .i64 j] w (Rt w (.tuple #[.int .u32 x, .bool true])) := by
  have hk := row_of hi hj
  have hle := area_le w2 h2
  rw [← hl] at hk hle
  have q1 : wrap64 ((j : Int) * (W : Int)) = ((j * W : Nat) : Int) := by rw [← Int.natCast_mul]; exact w64 (by omega) (by omega)
  have q2 : wrap64 (((j * W : Nat) : Int) + (i : Int)) = ((j * W + i : Nat) : Int) := by rw [← Int.natCast_add]; exact w64 (by omega) (by omega)
  have hc : w.cell? ⟨b, j * W + i, none⟩ = some (.int .u32 x) := by have := hR _ _ hx; rwa [Nat.zero_add] at this
  have hb := World.block_lt_of_cell? w _ hc
  have hc2 : ∀ o : Obj, (w.alloc o).cell? ⟨b, j * W + i, none⟩ = some (.int .u32 x) := fun o => (((Gr.refl w).alloc o).cell hb).trans hc
  clear hx hR hb hc
  generalize j * W + i = k at *
  generalize j * W = p at *
  generalize L.length = n at *
  clear hl
  go_enter Tryz.func147, Tryz.ntmps147
  go_wp2
  go_ret2
  exact ⟨rfl, (Gr.refl w).alloc _⟩

set_option maxHeartbeats 1000000 in
theorem refAt0 {W H c n : Nat} {A : Option Addr} (w : World) (x y : Int) (h : hasB 0 0 W H x y = false) :
    Calls Tryz.prog 147 #[.agg #[.int .i64 W, .int .i64 H, .slice A n c], .int .i64 x, .int .i64 y] w (Rt w (.tuple #[.int .u32 0, .bool false])) := by
  have h' : x < 0 ∨ (0 ≤ x ∧ y < 0) ∨ (0 ≤ x ∧ 0 ≤ y ∧ W ≤ x) ∨ (0 ≤ x ∧ 0 ≤ y ∧ x < W ∧ H ≤ y) := by
    simp [hasB] at h; omega
  clear h
  rcases h' with h | ⟨h, k⟩ | ⟨h, k, l⟩ | ⟨h, k, l, o⟩
  all_goals
    go_enter Tryz.func147, Tryz.ntmps147
    go_wp2
    go_ret2
    exact ⟨rfl, (Gr.refl w).alloc _⟩

set_option maxHeartbeats 1000000 in
theorem refBox1 {W H c n : Nat} {A : Option Addr} (w : World) :
    Calls Tryz.prog 76 #[.agg #[.int .i64 W, .int .i64 H, .slice A n c]] w (Rt w (.agg #[.int .i64 0, .int .i64 0, .int .i64 W, .int .i64 H])) := by
  go_enter Tryz.func76, Tryz.ntmps76
  go_wp2
  go_returns
  exact Rt.rect (r := ⟨0, 0, W, H⟩) ⟨rfl, rfl, rfl, rfl⟩ (((Gr.refl w).alloc _).alloc _)

end Go.Proofs.YtablogiielclaaaGreat
namespace Go.Proofs.YtablogiielclaaaGreat
open Go.RowKit Go.Sort Go.Deep

theorem mod_int (k W : Nat) : ((k : Int).tmod (W : Int)) = ((k % W : Nat) : Int) := by rw [Int.tmod_eq_emod_of_nonneg (by omega)]; simp
theorem div_int (k W : Nat) : ((k : Int).tdiv (W : Int)) = ((k / W : Nat) : Int) := by rw [Int.tdiv_eq_ediv_of_nonneg (by omega)]; simp

theorem rem_quo (k W : Nat) (hW : 1 ≤ W) (hk : k ≤ 1000000000) : ∃ i j : Nat, i = k % W ∧ j = k / W ∧ ¬ W = 0 ∧ ((k : Int).tmod (W : Int)) = (i : Int) ∧ ((k : Int) % (W : Int)) = (i : Int) ∧ ((k : Int) / (W : Int)) = (j : Int) ∧ IntKind.i64.wrap (i : Int) = (i : Int) ∧ IntKind.i64.wrap (j : Int) = (j : Int) ∧ wrap64 (i : Int) = (i : Int) ∧ wrap64 (j : Int) = (j : Int) := by
  have h2 : k % W ≤ k := Nat.mod_le _ _
  have h3 : k / W ≤ k := Nat.div_le_self _ _
  have bare : ∀ m : Nat, m ≤ k → IntKind.i64.wrap (m : Int) = (m : Int) ∧ wrap64 (m : Int) = (m : Int) := fun m h => ⟨IntWalk.i64_in _ (by omega), w64 (by omega) (by omega)⟩
  exact ⟨_, _, rfl, rfl, by omega, mod_int k W, by simp, by simp, (bare _ h2).1, (bare _ h3).1, (bare _ h2).2, (bare _ h3).2⟩
theorem take_set_z {L : List Int} {n k : Nat} {x : Int} (hn : k < n) (hx : L[k]? = some x) : (L.take k ++ List.replicate (n - k) 0).set k x = L.take (k + 1) ++ List.replicate (n - (k + 1)) 0 := by
  obtain ⟨_, hk⟩ := get_of hx
  have h1 : (L.take k).length = k := by rw [List.length_take]; omega
  have h2 : L.take (k + 1) = L.take k ++ [x] := by rw [List.take_add_one, hx]; rfl
  rw [show n - k = (n - (k + 1)) + 1 by omega, List.replicate_succ, List.set_append_right _ _ (by omega), h1, h2]
  simp

end Go.Proofs.YtablogiielclaaaGreat
namespace Go.Proofs.YtablogiielclaaaGreat
open Go.RowKit Go.Sort Go.Deep

def side (n : Int) : Nat := 1 + (around n 16).toNat
theorem side_bd (n : Int) : 1 ≤ side n ∧ side n ≤ 16 ∧ ((side n : Nat) : Int) = 1 + around n 16 := by
  have := around_bd n 16 (by omega)
  unfold side; omega
/-- The colors of an image that is made of these. -/
def goodL (n : Nat) (a : List Int) : List Int := (a.map gd).take n ++ List.replicate (n - a.length) 0
theorem goodL_len (n : Nat) (a : List Int) : (goodL n a).length = n := by simp [goodL]; omega
theorem goodL_may (n : Nat) (a : List Int) : MayL (goodL n a) := by
  intro c hc
  unfold goodL at hc
  rw [List.mem_append] at hc
  rcases hc with h | h
  · obtain ⟨x, _, rfl⟩ := List.mem_map.1 (List.mem_of_mem_take h)
    exact ⟨gd_c32 x, may_gd x⟩
  · obtain rfl := List.eq_of_mem_replicate h
    exact ⟨by unfold C32; omega, by decide⟩
theorem goodL_end {n k : Nat} {a : List Int} (h : k = n ∨ k = a.length) (hk : k ≤ n ∧ k ≤ a.length) : (a.map gd).take k ++ List.replicate (n - k) 0 = goodL n a := by
  unfold goodL
  rcases h with rfl | rfl
  · rw [show k - k = k - a.length by omega]
  · rw [List.take_of_length_le (by simp), List.take_of_length_le (l := a.map gd) (i := n) (by simp; omega)]
theorem At.put3 {w : World} {b : Nat} {z0 z1 z2 : Value} {t : TypeId} (h : At w b #[z0, z1, z2] t) (u0 u1 u2 : Value) :
    At (((w.setCell ⟨b, 0, none⟩ u0).setCell ⟨b, 1, none⟩ u1).setCell ⟨b, 2, none⟩ u2) b #[u0, u1, u2] t := by
  have h1 := Go.Joins.block_setCell (i := 0) h u0
  have h2 := Go.Joins.block_setCell (i := 1) h1 u1
  have h3 := Go.Joins.block_setCell (i := 2) h2 u2
  unfold At
  simpa using h3
theorem At.far3 {w : World} {b k : Nat} {cs : Array Value} {t : TypeId} (h : At w b cs t) (hp : b ≠ k) (u0 u1 u2 : Value) : At (((w.setCell ⟨k, 0, none⟩ u0).setCell ⟨k, 1, none⟩ u1).setCell ⟨k, 2, none⟩ u2) b cs t :=
  ((h.far (p := ⟨k, 0, none⟩) hp u0).far (p := ⟨k, 1, none⟩) hp u1).far (p := ⟨k, 2, none⟩) hp u2
theorem Bl.put3 {a w : World} (h : Bl a w) {k : Nat} (hk : a.heap.size ≤ k) (u0 u1 u2 : Value) : Bl a (((w.setCell ⟨k, 0, none⟩ u0).setCell ⟨k, 1, none⟩ u1).setCell ⟨k, 2, none⟩ u2) :=
  ((h.setCell (p := ⟨k, 0, none⟩) hk u0).setCell (p := ⟨k, 1, none⟩) hk u1).setCell (p := ⟨k, 2, none⟩) hk u2
theorem cells3 {w : World} {b : Nat} {v0 v1 v2 : Value} {t : TypeId} (h : At w b #[v0, v1, v2] t) : w.cell? ⟨b, 0, none⟩ = some v0 ∧ w.cell? ⟨b, 1, none⟩ = some v1 ∧ w.cell? ⟨b, 2, none⟩ = some v2 := ⟨h.cell 0, h.cell 1, h.cell 2⟩

set_option maxRecDepth 100000 in
set_option maxHeartbeats 2000000 in
theorem mgood1 (x y : Int) (A : Option Addr) (ca : Nat) (a : List Int) (w : World) (hA : Ns .u32 w A a) (h32 : ∀ c ∈ a, C32 c) (_hca : a.length ≤ ca) (_hcm : ca ≤ maxLen) (hx : I64 x) (hy : I64 y) :
    Calls Tryz.prog 128 #[.int .i64 x, .int .i64 y, .slice A a.length ca] w
      (fun e w' => ∃ b, e = .returned (.agg #[.int .i64 (side x : Nat), .int .i64 (side y : Nat), .slice (some ⟨b, 0, none⟩) (side x * side y) (side x * side y)]) ∧ At w' b (cC (goodL (side x * side y) a)) 52 ∧ w.heap.size ≤ b ∧ Bl w w') := by
  obtain ⟨s1, s2, s3⟩ := side_bd x
  obtain ⟨t1, t2, t3⟩ := side_bd y
  have ax := around_bd x 16 (by omega)
  have ay := around_bd y 16 (by omega)
  obtain ⟨ax1, ax2⟩ := ax
  obtain ⟨ay1, ay2⟩ := ay
  have cx := fun w => around1 x 16 w hx (by omega)
  have cy := fun w => around1 y 16 w hy (by omega)
  have cn := fun w => refNew1 (side x) (side y) w (by omega) (by omega)
  rw [s3, t3] at cn ⊢
  have hle := area_le (W := side x) (H := side y) (by omega) (by omega)
  generalize side x * side y = n at *
  generalize side x = sx at *
  generalize side y = sy at *
  generalize around x 16 = rx at *
  generalize around y 16 = ry at *
  have hs3 := Lib.hid s3
  have ht3 := Lib.hid t3
  obtain ⟨la, hla⟩ : ∃ la, la = a.length := ⟨_, rfl⟩
  rw [← hla]
  have hlaa := Lib.hid hla
  clear hla s3 t3
  go_enter Tryz.func128, Tryz.ntmps128
  go_wp2_with fail
  refine (cx _).mono ?_
  rintro e w1 ⟨rfl, rfl⟩
  go_wp2_with fail
  refine (cy _).mono ?_
  rintro e w1 ⟨rfl, rfl⟩
  go_wp2_with fail
  refine (cn _).mono ?_
  rintro e w2 ⟨b, rfl, C2, hb2, g2⟩
  have R2 := (At.new w #[.int .i64 0, .int .i64 0, .slice none 0 0] 27).gr g2
  have G2 := (((Gr.refl w).alloc _).trans g2).bl
  simp at hb2
  have hz : (a.map gd).take 0 ++ List.replicate (n - 0) 0 = List.replicate n 0 := by simp
  rw [← hz] at C2
  clear hz cx cy cn g2
  go_wp2_with fail
  have M2 := At.new w2 #[.int .i64 (1 + rx), .int .i64 (1 + ry), .slice (some ⟨b, 0, none⟩) n n] 27
  have hs2 := G2.size
  have hl2 := C2.lt
  have hr2 := R2.lt
  replace R2 := R2.alloc (.cells #[.int .i64 (1 + rx), .int .i64 (1 + ry), .slice (some ⟨b, 0, none⟩) n n] 27)
  replace C2 := C2.alloc (.cells #[.int .i64 (1 + rx), .int .i64 (1 + ry), .slice (some ⟨b, 0, none⟩) n n] 27)
  replace G2 := G2.alloc (.cells #[.int .i64 (1 + rx), .int .i64 (1 + ry), .slice (some ⟨b, 0, none⟩) n n] 27)
  obtain ⟨bm, hbm⟩ : ∃ bm, bm = w2.heap.size := ⟨_, rfl⟩
  rw [← hbm] at M2 ⊢
  have hbm' : b < bm ∧ w.heap.size < bm := by omega
  obtain ⟨hbm1, hbm2⟩ := hbm'
  clear hbm hl2 hr2 hs2
  go_loopw [8] (fun i wr => ∃ k : Nat, k ≤ n ∧ k ≤ la ∧ i = .int .i64 k ∧ At wr b (cC ((a.map gd).take k ++ List.replicate (n - k) 0)) 52 ∧ At wr w.heap.size #[.int .i64 0, .int .i64 0, .slice none 0 0] 27 ∧
      At wr bm #[.int .i64 (1 + rx), .int .i64 (1 + ry), .slice (some ⟨b, 0, none⟩) n n] 27 ∧ Bl w wr) (fun i _ => n - (intOf i).toNat)
  case atStart => exact ⟨0, Nat.zero_le _, Nat.zero_le _, rfl, C2, R2, M2, G2⟩
  case round =>
    obtain ⟨k, hk, hka, rfl, Ck, Rk, Mk, Gk⟩ := hrel
    obtain ⟨m0, m1, m2⟩ := cells3 Mk
    by_cases hlt : k < n ∧ k < la
    · obtain ⟨hl1, hl2⟩ := hlt
      rcases (hA.bl Gk) with h | ⟨ba, off, rfl, hr⟩
      · subst h; exfalso; have := hlaa.out; simp at this; omega
      · obtain ⟨q, hq⟩ : ∃ q, a[k]? = some q := ⟨a[k]'(by rw [← hlaa.out]; exact hl2), List.getElem?_eq_getElem _⟩
        have hq32 := h32 q (get_of hq).1
        have hgd : (a.map gd)[k]? = some (gd q) := by rw [List.getElem?_map, hq]; rfl
        have hset := take_set_z hl1 hgd
        have cg := fun w => cgood1 q w hq32
        have c1 := hr k q hq
        have hbl := World.block_lt_of_cell? wr _ c1
        have c1' : ∀ w', Gr wr w' → w'.cell? ⟨ba, off + k, none⟩ = some (.int .u32 q) := fun w' g => (g.cell hbl).trans c1
        obtain ⟨old, hold⟩ : ∃ old, (cC ((a.map gd).take k ++ List.replicate (n - k) 0))[k]? = some (.int .u32 old) := by
          rw [cC_get]
          obtain ⟨o, ho⟩ := list_at (l := (a.map gd).take k ++ List.replicate (n - k) 0) (k := k) (by have := hlaa.out; simp; omega)
          exact ⟨o, by rw [ho]; rfl⟩
        have hset' := Lib.hid hset
        have hold' := Lib.hid hold
        clear hq hgd hset hold hr hbl
        generalize gd q = gq at *
        go_wp2
        go_region_with (go_at_call 62; refine (cg _).mono ?_; rintro e w3 ⟨rfl, g3⟩; have u1 := (Mk.drew.gr g3).cell 2; have u2 := ((Ck.drew.gr g3).cell k).trans hold'.out; have u3 := (Ck.drew.gr g3).free k; simp at u1)
        all_goals
          clear u1 u2 u3 c1 c1' hold' m0 m1 m2 cg
          have C3 := ((Ck.drew.gr g3).put k (.int .u32 gq))
          rw [cC_set, hset'.out] at C3
          have R3 := (Rk.drew.gr g3).far (p := ⟨b, k, none⟩) (by simp; omega) (.int .u32 gq)
          have M3 := (Mk.drew.gr g3).far (p := ⟨b, k, none⟩) (by simp; omega) (.int .u32 gq)
          have G3 := (Gk.drew.gr g3).setCell (p := ⟨b, k, none⟩) (by simp; omega) (.int .u32 gq)
          go_wp2
          go_roundw
          case rel => exact ⟨k + 1, by omega, by omega, by simp, C3, R3, M3, G3⟩
          case measure => simp [intOf]; omega
    · obtain ⟨r0, r1, r2⟩ := cells3 Rk
      obtain ⟨f0, f1, f2, _⟩ := free4 Rk
      have hend : k = n ∨ k = a.length := by have := hlaa.out; omega
      rw [goodL_end hend ⟨hk, by rw [← hlaa.out]; exact hka⟩] at Ck
      have hor : k = la ∨ (k < la ∧ n ≤ k) := by have := hlaa.out; omega
      clear hend hlt
      rcases hor with h | ⟨h, h'⟩
      all_goals
        go_wp2
        have P := Rk.put3 (.int .i64 (1 + rx)) (.int .i64 (1 + ry)) (.slice (some ⟨b, 0, none⟩) n n)
        have C := Ck.far3 (k := w.heap.size) (by omega) (.int .i64 (1 + rx)) (.int .i64 (1 + ry)) (.slice (some ⟨b, 0, none⟩) n n)
        have G := Gk.put3 (Nat.le_refl _) (.int .i64 (1 + rx)) (.int .i64 (1 + ry)) (.slice (some ⟨b, 0, none⟩) n n)
        generalize ((wr.setCell ⟨w.heap.size, 0, none⟩ (.int .i64 (1 + rx))).setCell ⟨w.heap.size, 1, none⟩ (.int .i64 (1 + ry))).setCell ⟨w.heap.size, 2, none⟩ (.slice (some ⟨b, 0, none⟩) n n) = V at P C G ⊢
        obtain ⟨d0, d1, d2⟩ := cells3 P
        exact bodyPost_ret (v := .agg #[.int .i64 (1 + rx), .int .i64 (1 + ry), .slice (some ⟨b, 0, none⟩) n n]) (by simp [results, Tryz.results128, go_sem, d0, d1, d2]) rfl ⟨b, rfl, C, by omega, G⟩

end Go.Proofs.YtablogiielclaaaGreat
