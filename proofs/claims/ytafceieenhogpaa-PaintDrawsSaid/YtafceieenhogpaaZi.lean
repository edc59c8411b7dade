/-
  What is proved: nothing of its own: it hands on the calls of package rect. No conditions. what more calls of package rect, and of the document's answers, hand back (for an image's seat). small words for an image in memory, and what New, Box, At, Set of package image hand back. what span and spans of package image hand back, and what a range over spans comes to: an iterator's contract. what Fill of package image does. what the document's example comes to, and what Fill does with a color that may not be. an argument that is a row of colors, or of bytes, reads as a list of them. No conditions. what the small calls of the document's images hand back: New, Box, At; and of build and like of the statements. what build and like of the statements do. like of the statements tells an image that is the document's. what 'append' does to a row of numbers (colors, bytes) that the call owns. No conditions but a bound on the length.
-/
import Derived.Test.YtafceieenhogpaaZa
import Derived.Test.YtafceieenhogpaaZb
import Derived.Test.YtafceieenhogpaaZc
import Derived.Test.YtafceieenhogpaaZd
import Derived.Lib.Hide
import Derived.IntWalk
import Derived.RegionTactic
import Derived.Laws.AppendOwn
import Derived.Laws.OwnMore
import Derived.Laws.MakeOwn
import Derived.RowKit
import Derived.RangeFuncNested
import Derived.RangeFuncBound
import Derived.RangeFuncCalls
import Derived.RangeFuncLeaves
import Derived.Shelf.Abstract
import Derived.Shelf.RegionOpen
import Derived.OwnWalkIn
import Derived.TacticsInMore
import Derived.LoopNIn
import Derived.LoopIn
import Derived.Carry
import Derived.Deep.Slices
import Derived.Deep.Fields
import Derived.LoopTactic
import Derived.Deep.AppendLies
import Derived.OwnWalk

namespace Go.Proofs.Ytafceieenhogpaa
open Go.RowKit Go.Sort

attribute [local go_sem] cell?_grow frozen?_grow nlt_r

set_option maxHeartbeats 2000000 in
theorem refcutI1 (a b c d a' b' c' d' : Int) (w : World) :
    Calls Try.prog 27 #[.agg #[.int .i64 a, .int .i64 b, .int .i64 c, .int .i64 d], .agg #[.int .i64 a', .int .i64 b', .int .i64 c', .int .i64 d']] w
      (Rt w (.agg #[.int .i64 (cutR a b c d a' b' c' d').a, .int .i64 (cutR a b c d a' b' c' d').b, .int .i64 (cutR a b c d a' b' c' d').c, .int .i64 (cutR a b c d a' b' c' d').d])) := by
  go_enter Try.func27, Try.ntmps27
  go_wp2_with fail
  all_goals
    refine (refempty1 _ _ _ _ _).mono ?_
    rintro e w' ⟨rfl, ⟨⟨n, os⟩, rfl⟩⟩
    go_wp2
    all_goals
      go_returns
      refine Rt.rect (by first | exact cutR_t ‹_› (by omega) | exact cutR_f ‹_› (by omega)) ?_
      repeat (first | with_reducible exact Gr.refl _ | with_reducible apply Gr.drew | with_reducible apply Gr.drewN | with_reducible apply Gr.grow | with_reducible apply Gr.alloc | (with_reducible refine Gr.setCell ?_ ?_ _; rotate_left; (simp; try omega)))

set_option maxHeartbeats 1000000 in
theorem refcovers1 (a b c d a' b' c' d' : Int) (w : World) :
    Calls Try.prog 68 #[.agg #[.int .i64 a, .int .i64 b, .int .i64 c, .int .i64 d], .agg #[.int .i64 a', .int .i64 b', .int .i64 c', .int .i64 d']] w (Rt w (.bool (coversB a b c d a' b' c' d'))) := by
  go_enter Try.func68, Try.ntmps68
  go_wp2_with fail
  refine (refempty1 _ _ _ _ _).mono ?_
  rintro e w' ⟨rfl, ⟨⟨n, os⟩, rfl⟩⟩
  go_wp2
  all_goals
    go_ret
    refine Rt.bool ?_ ?_
    · simp [coversB, *] <;> omega
    · repeat (first | with_reducible exact Gr.refl _ | with_reducible apply Gr.drew | with_reducible apply Gr.drewN | with_reducible apply Gr.grow | with_reducible apply Gr.alloc | (with_reducible refine Gr.setCell ?_ ?_ _; rotate_left; (simp; try omega)))

end Go.Proofs.Ytafceieenhogpaa
namespace Go.Proofs.Ytafceieenhogpaa
open Go.RowKit Go.Sort

/-- The cells of a list of colors. -/
def cC (L : List Int) : Array Value := (L.map (Value.int .u32)).toArray
theorem cC_get (L : List Int) (k : Nat) : (cC L)[k]? = L[k]?.map (Value.int .u32) := by simp [cC]
theorem cC_set (L : List Int) (k : Nat) (c : Int) : (cC L).setIfInBounds k (.int .u32 c) = cC (L.set k c) := by
  apply Array.ext_getElem?
  intro i
  rw [cC_get, Array.getElem?_setIfInBounds, List.getElem?_set, cC_get]
  have hs : (cC L).size = L.length := by simp [cC]
  rw [hs]
  split
  · split <;> simp_all
  · rfl

/-- Block pm is an image of W by H whose colors lie in block pc. -/
structure Img (w : World) (pm pc W H : Nat) (L : List Int) : Prop where
  hd : At w pm #[.int .i64 W, .int .i64 H, .slice (some ⟨pc, 0, none⟩) L.length L.length] 105
  cs : At w pc (cC L) 39
  len : L.length = W * H
  w1 : 1 ≤ W
  w2 : W ≤ 256
  h1 : 1 ≤ H
  h2 : H ≤ 256
  ne : pm ≠ pc
theorem Img.c0 {w : World} {pm pc W H : Nat} {L : List Int} (h : Img w pm pc W H L) : w.cell? ⟨pm, 0, none⟩ = some (.int .i64 W) := h.hd.cell 0
theorem Img.c1 {w : World} {pm pc W H : Nat} {L : List Int} (h : Img w pm pc W H L) : w.cell? ⟨pm, 1, none⟩ = some (.int .i64 H) := h.hd.cell 1
theorem Img.c2 {w : World} {pm pc W H : Nat} {L : List Int} (h : Img w pm pc W H L) : w.cell? ⟨pm, 2, none⟩ = some (.slice (some ⟨pc, 0, none⟩) L.length L.length) := h.hd.cell 2
/-- The same, where the colors' block goes on behind them (what a clone's does). -/
structure ImgX (w : World) (pm pc W H : Nat) (L : List Int) (X : List Value) : Prop where
  hd : At w pm #[.int .i64 W, .int .i64 H, .slice (some ⟨pc, 0, none⟩) L.length (L.length + X.length)] 105
  cs : At w pc (L.map (Value.int .u32) ++ X).toArray 39
  len : L.length = W * H
  w1 : 1 ≤ W
  w2 : W ≤ 256
  h1 : 1 ≤ H
  h2 : H ≤ 256
  ne : pm ≠ pc
theorem Img.x {w : World} {pm pc W H : Nat} {L : List Int} (h : Img w pm pc W H L) : ImgX w pm pc W H L [] :=
  { hd := h.hd, cs := by rw [List.append_nil]; exact h.cs, len := h.len, w1 := h.w1, w2 := h.w2, h1 := h.h1, h2 := h.h2, ne := h.ne }
theorem ImgX.o {w : World} {pm pc W H : Nat} {L : List Int} (h : ImgX w pm pc W H L []) : Img w pm pc W H L :=
  { hd := h.hd, cs := by have := h.cs; rwa [List.append_nil] at this, len := h.len, w1 := h.w1, w2 := h.w2, h1 := h.h1, h2 := h.h2, ne := h.ne }
theorem ImgX.c0 {w : World} {pm pc W H : Nat} {L : List Int} {X : List Value} (h : ImgX w pm pc W H L X) : w.cell? ⟨pm, 0, none⟩ = some (.int .i64 W) := h.hd.cell 0
theorem ImgX.c1 {w : World} {pm pc W H : Nat} {L : List Int} {X : List Value} (h : ImgX w pm pc W H L X) : w.cell? ⟨pm, 1, none⟩ = some (.int .i64 H) := h.hd.cell 1
theorem ImgX.c2 {w : World} {pm pc W H : Nat} {L : List Int} {X : List Value} (h : ImgX w pm pc W H L X) : w.cell? ⟨pm, 2, none⟩ = some (.slice (some ⟨pc, 0, none⟩) L.length (L.length + X.length)) := h.hd.cell 2
theorem ImgX.at {w : World} {pm pc W H : Nat} {L : List Int} {X : List Value} (h : ImgX w pm pc W H L X) {k : Nat} {c : Int} (hk : L[k]? = some c) : w.cell? ⟨pc, k, none⟩ = some (.int .u32 c) := by
  have hl : k < L.length := (List.getElem?_eq_some_iff.1 hk).1
  rw [h.cs.cell k, List.getElem?_toArray, List.getElem?_append_left (by simpa using hl), List.getElem?_map, hk]; rfl
theorem ImgX.gr {w w' : World} {pm pc W H : Nat} {L : List Int} {X : List Value} (h : ImgX w pm pc W H L X) (g : Gr w w') : ImgX w' pm pc W H L X := { h with hd := h.hd.gr g, cs := h.cs.gr g }
theorem ImgX.bl {w w' : World} {pm pc W H : Nat} {L : List Int} {X : List Value} (h : ImgX w pm pc W H L X) (g : Bl w w') : ImgX w' pm pc W H L X := { h with hd := h.hd.bl g, cs := h.cs.bl g }
theorem Img.at {w : World} {pm pc W H : Nat} {L : List Int} (h : Img w pm pc W H L) {k : Nat} {c : Int} (hk : L[k]? = some c) : w.cell? ⟨pc, k, none⟩ = some (.int .u32 c) := by
  rw [h.cs.cell k, cC_get, hk]; rfl
theorem Img.gr {w w' : World} {pm pc W H : Nat} {L : List Int} (h : Img w pm pc W H L) (g : Gr w w') : Img w' pm pc W H L := { h with hd := h.hd.gr g, cs := h.cs.gr g }
theorem At.kept {w w' : World} {b : Nat} {cs : Array Value} {t : TypeId} {row : Option Nat} (h : At w b cs t) (g : w.grownBy w' row) (hne : some b ≠ row) : At w' b cs t := by
  have := g.block b h.lt hne
  unfold At at *; rw [this]; exact h
theorem Img.kept {w w' : World} {pm pc W H : Nat} {L : List Int} {row : Option Nat} (h : Img w pm pc W H L) (g : w.grownBy w' row) (h1 : some pm ≠ row) (h2 : some pc ≠ row) : Img w' pm pc W H L := { h with hd := h.hd.kept g h1, cs := h.cs.kept g h2 }
theorem Gr.by {w w' : World} (h : Gr w w') (row : Option Nat) : w.grownBy w' row := ⟨h.below.os, h.below.tape, h.below.output, h.size, fun k hk _ => h.below.block k hk⟩
theorem by_trans {a b c : World} {row : Option Nat} (h : a.grownBy b row) (k : b.grownBy c row) : a.grownBy c row :=
  ⟨k.os.trans h.os, k.tape.trans h.tape, k.output.trans h.output, Nat.le_trans h.size k.size, fun i hi hr => (k.block i (Nat.lt_of_lt_of_le hi h.size) hr).trans (h.block i hi hr)⟩
theorem At.put {w : World} {b : Nat} {cs : Array Value} {t : TypeId} (h : At w b cs t) (i : Nat) (u : Value) : At (w.setCell ⟨b, i, none⟩ u) b (cs.setIfInBounds i u) t := Go.Joins.block_setCell (i := i) h u
theorem row_of {i j W H : Nat} (hi : i < W) (hj : j < H) : j * W + i < W * H := by
  have := Nat.mul_le_mul_right W (show j + 1 ≤ H from hj)
  rw [Nat.add_mul, Nat.mul_comm H] at this; omega
theorem area_le {W H : Nat} (h : W ≤ 256) (k : H ≤ 256) : W * H ≤ 65536 := by
  have := Nat.mul_le_mul h k; omega

set_option maxHeartbeats 1000000 in
theorem boxX {pm pc W H : Nat} {L : List Int} {X : List Value} (w : World) (hI : ImgX w pm pc W H L X) :
    Calls Try.prog 60 #[.pointer (some ⟨pm, 0, none⟩)] w (Rt w (.agg #[.int .i64 0, .int .i64 0, .int .i64 W, .int .i64 H])) := by
  have g := (Gr.refl w).alloc (.cells #[.int .i64 0, .int .i64 0, .int .i64 0, .int .i64 0] 24)
  have k0 := (hI.gr g).c0
  have k1 := (hI.gr g).c1
  clear hI
  go_enter Try.func60, Try.ntmps60
  go_wp2
  have hk := At.new w #[.int .i64 0, .int .i64 0, .int .i64 0, .int .i64 0] 24
  obtain ⟨V, hV⟩ : ∃ V, V = w.alloc (.cells #[.int .i64 0, .int .i64 0, .int .i64 0, .int .i64 0] 24) := ⟨_, rfl⟩
  rw [← hV] at hk k0 k1 g ⊢
  clear hV
  obtain ⟨b, hb'⟩ : ∃ b, b = w.heap.size := ⟨_, rfl⟩
  have hb : w.heap.size ≤ b := by omega
  rw [← hb'] at hk ⊢
  clear hb'
  have c0 := hk.cell 0; have c1 := hk.cell 1; have c2 := hk.cell 2; have c3 := hk.cell 3
  have f0 := hk.free 0; have f1 := hk.free 1; have f2 := hk.free 2; have f3 := hk.free 3
  simp at c0 c1 c2 c3
  go_region
  all_goals
    go_wp2
    have k := hk.put4 (.int .i64 0) (.int .i64 0) (.int .i64 W) (.int .i64 H)
    have G : Gr w ((((V.setCell ⟨b, 0, none⟩ (.int .i64 0)).setCell ⟨b, 1, none⟩ (.int .i64 0)).setCell ⟨b, 2, none⟩ (.int .i64 W)).setCell ⟨b, 3, none⟩ (.int .i64 H)) := (((g.setCell (p := ⟨b, 0, none⟩) hb _).setCell (p := ⟨b, 1, none⟩) hb _).setCell (p := ⟨b, 2, none⟩) hb _).setCell (p := ⟨b, 3, none⟩) hb _
    generalize (((V.setCell ⟨b, 0, none⟩ (.int .i64 0)).setCell ⟨b, 1, none⟩ (.int .i64 0)).setCell ⟨b, 2, none⟩ (.int .i64 W)).setCell ⟨b, 3, none⟩ (.int .i64 H) = V4 at k G ⊢
    have d0 := k.cell 0; have d1 := k.cell 1; have d2 := k.cell 2; have d3 := k.cell 3
    simp at d0 d1 d2 d3
    exact bodyPost_ret (v := .agg #[.int .i64 0, .int .i64 0, .int .i64 W, .int .i64 H]) (by simp [results, Try.results60, go_sem, d0, d1, d2, d3]) rfl ⟨rfl, G.drew⟩
theorem box1 {pm pc W H : Nat} {L : List Int} (w : World) (hI : Img w pm pc W H L) :
    Calls Try.prog 60 #[.pointer (some ⟨pm, 0, none⟩)] w (Rt w (.agg #[.int .i64 0, .int .i64 0, .int .i64 W, .int .i64 H])) := boxX w hI.x

set_option maxHeartbeats 1000000 in
theorem at0X {pm pc W H : Nat} {L : List Int} {X : List Value} (w : World) (hI : ImgX w pm pc W H L X) (x y : Int) (h : hasB 0 0 W H x y = false) :
    Calls Try.prog 73 #[.pointer (some ⟨pm, 0, none⟩), .int .i64 x, .int .i64 y] w (Rt w (.tuple #[.int .u32 0, .bool false])) := by
  have cb := boxX w hI
  have ch := fun w => has1 0 0 W H x y w
  rw [h] at ch
  go_enter Try.func73, Try.ntmps73
  go_wp2_with fail
  refine cb.mono ?_
  rintro e w1 ⟨rfl, g1⟩
  go_wp2_with fail
  refine (ch _).mono ?_
  rintro e w2 ⟨rfl, g2⟩
  go_wp2
  go_ret2
  exact ⟨rfl, g1.trans g2⟩
theorem at0 {pm pc W H : Nat} {L : List Int} (w : World) (hI : Img w pm pc W H L) (x y : Int) (h : hasB 0 0 W H x y = false) :
    Calls Try.prog 73 #[.pointer (some ⟨pm, 0, none⟩), .int .i64 x, .int .i64 y] w (Rt w (.tuple #[.int .u32 0, .bool false])) := at0X w hI.x x y h

set_option maxHeartbeats 1000000 in
theorem at1X {pm pc W H : Nat} {L : List Int} {X : List Value} (w : World) (hI : ImgX w pm pc W H L X) (i j : Nat) (hi : i < W) (hj : j < H) (c : Int) (hc : L[j * W + i]? = some c) :
    Calls Try.prog 73 #[.pointer (some ⟨pm, 0, none⟩), .int .i64 i, .int .i64 j] w (Rt w (.tuple #[.int .u32 c, .bool true])) := by
  have cb := boxX w hI
  have ch := fun w => has1 0 0 W H i j w
  rw [show hasB 0 0 W H i j = true from by simp [hasB]; omega] at ch
  have hk := row_of hi hj
  have hle := area_le hI.w2 hI.h2
  rw [← hI.len] at hk hle
  have e1 : IntKind.i64.wrap ((j : Int) * (W : Int)) = ((j * W : Nat) : Int) := by rw [← Int.natCast_mul]; exact IntWalk.i64_in _ (by omega)
  have e2 : IntKind.i64.wrap (((j * W : Nat) : Int) + (i : Int)) = ((j * W + i : Nat) : Int) := by rw [← Int.natCast_add]; exact IntWalk.i64_in _ (by omega)
  have q1 : wrap64 ((j : Int) * (W : Int)) = ((j * W : Nat) : Int) := by rw [← Int.natCast_mul]; exact w64 (by omega) (by omega)
  have q2 : wrap64 (((j * W : Nat) : Int) + (i : Int)) = ((j * W + i : Nat) : Int) := by rw [← Int.natCast_add]; exact w64 (by omega) (by omega)
  generalize j * W + i = k at *
  generalize j * W = p at *
  generalize hn : L.length = n at *
  have hnn := Lib.hid hn
  go_enter Try.func73, Try.ntmps73
  go_wp2_with fail
  refine cb.mono ?_
  rintro e w1 ⟨rfl, g1⟩
  go_wp2_with fail
  refine (ch _).mono ?_
  rintro e w2 ⟨rfl, g2⟩
  have J := (hI.gr g1).gr g2
  have k0 := J.c0; have k2 := J.c2; have k3 := J.at hc
  rw [hnn.out] at k2
  go_wp2
  go_quiet (fail)
  go_wp2
  go_ret2
  exact ⟨rfl, (g1.trans g2).drewN _⟩
theorem at1 {pm pc W H : Nat} {L : List Int} (w : World) (hI : Img w pm pc W H L) (i j : Nat) (hi : i < W) (hj : j < H) (c : Int) (hc : L[j * W + i]? = some c) :
    Calls Try.prog 73 #[.pointer (some ⟨pm, 0, none⟩), .int .i64 i, .int .i64 j] w (Rt w (.tuple #[.int .u32 c, .bool true])) := at1X w hI.x i j hi hj c hc

theorem ImgX.set {w : World} {pm pc W H : Nat} {L : List Int} {X : List Value} (h : ImgX w pm pc W H L X) (k : Nat) (c : Int) (hk : k < L.length) : ImgX (w.setCell ⟨pc, k, none⟩ (.int .u32 c)) pm pc W H (L.set k c) X := by
  have hl : (L.set k c).length = L.length := List.length_set
  refine { h with hd := ?_, cs := ?_, len := hl.trans h.len }
  · rw [hl]; exact h.hd.far (p := ⟨pc, k, none⟩) h.ne _
  · have hm : (L.set k c).map (Value.int .u32) ++ X = (L.map (Value.int .u32) ++ X).set k (.int .u32 c) := by
      rw [List.set_append_left _ _ (by simpa using hk), List.map_set]
    rw [hm, ← List.setIfInBounds_toArray]; exact h.cs.put k _
theorem Img.set {w : World} {pm pc W H : Nat} {L : List Int} (h : Img w pm pc W H L) (k : Nat) (c : Int) : Img (w.setCell ⟨pc, k, none⟩ (.int .u32 c)) pm pc W H (L.set k c) := by
  have hl : (L.set k c).length = L.length := List.length_set
  refine { h with hd := ?_, cs := ?_, len := hl.trans h.len }
  · rw [hl]; exact h.hd.far (p := ⟨pc, k, none⟩) h.ne _
  · rw [← cC_set]; exact h.cs.put k _
theorem by_set {a b : World} {p : Addr} (h : a.grownBy b (some p.block)) (u : Value) : a.grownBy (b.setCell p u) (some p.block) :=
  by_trans h ⟨rfl, rfl, rfl, by simp [World.setCell], fun k _ hk => Below.heap_setCell _ _ _ k (fun e => hk (by rw [e]))⟩
theorem by_drew {a b : World} {row : Option Nat} (h : a.grownBy b row) : a.grownBy b.drew row := by_trans h ((Gr.refl b).drew.by row)
theorem by_drewN {a b : World} {row : Option Nat} (h : a.grownBy b row) (n : Nat) : a.grownBy (b.drewN n) row := by_trans h (((Gr.refl b).drewN n).by row)
theorem by_gr {a b c : World} {row : Option Nat} (h : a.grownBy b row) (k : Gr b c) : a.grownBy c row := by_trans h (k.by row)
theorem by_refl (a : World) (row : Option Nat) : a.grownBy a row := (Gr.refl a).by row
theorem by_alloc {a b : World} {row : Option Nat} (h : a.grownBy b row) (o : Obj) : a.grownBy (b.alloc o) row := by_gr h ((Gr.refl b).alloc o)
/-- A store into a block that was not there. -/
theorem by_new {a b : World} {row : Option Nat} (h : a.grownBy b row) {p : Addr} (hp : a.heap.size ≤ p.block) (u : Value) : a.grownBy (b.setCell p u) row :=
  ⟨h.os, h.tape, h.output, Nat.le_trans h.size (by simp [World.setCell]), fun k hk hr => (Below.heap_setCell _ _ _ k (by omega)).trans (h.block k hk hr)⟩

set_option maxHeartbeats 1000000 in
theorem setRX {pm pc W H : Nat} {L : List Int} {X : List Value} (w : World) (hI : ImgX w pm pc W H L X) (x y c : Int) (h : hasB 0 0 W H x y = false) :
    Calls Try.prog 18 #[.pointer (some ⟨pm, 0, none⟩), .int .i64 x, .int .i64 y, .int .u32 c] w (Rt w (.int .i64 4)) := by
  have cb := boxX w hI
  have ch := fun w => has1 0 0 W H x y w
  rw [h] at ch
  go_enter Try.func18, Try.ntmps18
  go_wp2_with fail
  refine cb.mono ?_
  rintro e w1 ⟨rfl, g1⟩
  go_wp2_with fail
  refine (ch _).mono ?_
  rintro e w2 ⟨rfl, g2⟩
  go_wp2
  go_ret
  exact ⟨rfl, g1.trans g2⟩
theorem setR {pm pc W H : Nat} {L : List Int} (w : World) (hI : Img w pm pc W H L) (x y c : Int) (h : hasB 0 0 W H x y = false) :
    Calls Try.prog 18 #[.pointer (some ⟨pm, 0, none⟩), .int .i64 x, .int .i64 y, .int .u32 c] w (Rt w (.int .i64 4)) := setRX w hI.x x y c h

set_option maxHeartbeats 1000000 in
theorem setAX {pm pc W H : Nat} {L : List Int} {X : List Value} (w : World) (hI : ImgX w pm pc W H L X) (x y c : Int) (hc : C32 c) (h : hasB 0 0 W H x y = true) (hm : mayC c = false) :
    Calls Try.prog 18 #[.pointer (some ⟨pm, 0, none⟩), .int .i64 x, .int .i64 y, .int .u32 c] w (Rt w (.int .i64 1)) := by
  have cb := boxX w hI
  have ch := fun w => has1 0 0 W H x y w
  have cm := fun w => cmay1 c w hc
  rw [h] at ch
  rw [hm] at cm
  go_enter Try.func18, Try.ntmps18
  go_wp2_with fail
  refine cb.mono ?_
  rintro e w1 ⟨rfl, g1⟩
  go_wp2_with fail
  refine (ch _).mono ?_
  rintro e w2 ⟨rfl, g2⟩
  go_wp2_with fail
  refine (cm _).mono ?_
  rintro e w3 ⟨rfl, g3⟩
  go_wp2
  go_ret
  exact ⟨rfl, (g1.trans g2).trans g3⟩
theorem setA {pm pc W H : Nat} {L : List Int} (w : World) (hI : Img w pm pc W H L) (x y c : Int) (hc : C32 c) (h : hasB 0 0 W H x y = true) (hm : mayC c = false) :
    Calls Try.prog 18 #[.pointer (some ⟨pm, 0, none⟩), .int .i64 x, .int .i64 y, .int .u32 c] w (Rt w (.int .i64 1)) := setAX w hI.x x y c hc h hm

set_option maxHeartbeats 1000000 in
theorem set1X {pm pc W H : Nat} {L : List Int} {X : List Value} (w : World) (hI : ImgX w pm pc W H L X) (i j : Nat) (hi : i < W) (hj : j < H) (c : Int) (hc : C32 c) (hm : mayC c = true) :
    Calls Try.prog 18 #[.pointer (some ⟨pm, 0, none⟩), .int .i64 i, .int .i64 j, .int .u32 c] w (fun e w' => e = .returned (.int .i64 0) ∧ w.grownBy w' (some pc) ∧ ImgX w' pm pc W H (L.set (j * W + i) c) X) := by
  have cb := boxX w hI
  have ch := fun w => has1 0 0 W H i j w
  have cm := fun w => cmay1 c w hc
  rw [show hasB 0 0 W H i j = true from by simp [hasB]; omega] at ch
  rw [hm] at cm
  have hk := row_of hi hj
  have hle := area_le hI.w2 hI.h2
  rw [← hI.len] at hk hle
  have e1 : IntKind.i64.wrap ((j : Int) * (W : Int)) = ((j * W : Nat) : Int) := by rw [← Int.natCast_mul]; exact IntWalk.i64_in _ (by omega)
  have e2 : IntKind.i64.wrap (((j * W : Nat) : Int) + (i : Int)) = ((j * W + i : Nat) : Int) := by rw [← Int.natCast_add]; exact IntWalk.i64_in _ (by omega)
  have q1 : wrap64 ((j : Int) * (W : Int)) = ((j * W : Nat) : Int) := by rw [← Int.natCast_mul]; exact w64 (by omega) (by omega)
  have q2 : wrap64 (((j * W : Nat) : Int) + (i : Int)) = ((j * W + i : Nat) : Int) := by rw [← Int.natCast_add]; exact w64 (by omega) (by omega)
  obtain ⟨old, hold⟩ : ∃ old, L[j * W + i]? = some old := ⟨L[j * W + i], List.getElem?_eq_getElem hk⟩
  generalize j * W + i = k at *
  generalize j * W = p at *
  obtain ⟨n, hn⟩ : ∃ n, n = L.length := ⟨_, rfl⟩
  rw [← hn] at hk hle
  have hnn := Lib.hid hn
  clear hn
  go_enter Try.func18, Try.ntmps18
  go_wp2_with fail
  refine cb.mono ?_
  rintro e w1 ⟨rfl, g1⟩
  go_wp2_with fail
  refine (ch _).mono ?_
  rintro e w2 ⟨rfl, g2⟩
  go_wp2_with fail
  refine (cm _).mono ?_
  rintro e w3 ⟨rfl, g3⟩
  have J := ((hI.gr g1).gr g2).gr g3
  have k0 := J.c0; have k2 := J.c2; have k3 := J.at hold
  have k4 := J.cs.free k
  rw [← hnn.out] at k2
  replace g3 := (g1.trans g2).trans g3
  clear hold
  go_wp2
  go_region
  all_goals
    go_wp2
    go_ret
    exact ⟨rfl, by_drew (by_set (g3.by _) _), (J.set k c (by rw [← hnn.out]; exact hk)).gr (Gr.refl _).drew⟩
theorem set1 {pm pc W H : Nat} {L : List Int} (w : World) (hI : Img w pm pc W H L) (i j : Nat) (hi : i < W) (hj : j < H) (c : Int) (hc : C32 c) (hm : mayC c = true) :
    Calls Try.prog 18 #[.pointer (some ⟨pm, 0, none⟩), .int .i64 i, .int .i64 j, .int .u32 c] w (fun e w' => e = .returned (.int .i64 0) ∧ w.grownBy w' (some pc) ∧ Img w' pm pc W H (L.set (j * W + i) c)) :=
  (set1X w hI.x i j hi hj c hc hm).mono fun _ _ h => ⟨h.1, h.2.1, h.2.2.o⟩

set_option maxHeartbeats 1000000 in
theorem newN (W H : Int) (w : World) (h : W < 1 ∨ 256 < W ∨ H < 1 ∨ 256 < H) :
    Calls Try.prog 55 #[.int .i64 W, .int .i64 H] w (Rt w (.tuple #[.pointer none, .int .i64 1])) := by
  go_enter Try.func55, Try.ntmps55
  go_wp2
  all_goals first
    | (exfalso; omega)
    | (go_ret2; exact ⟨rfl, Gr.refl _⟩)

theorem cC_zero (n : Nat) : cC (List.replicate n 0) = Array.replicate n (.int .u32 0) := by
  apply Array.ext'
  simp [cC, List.map_replicate]

theorem infoC : (Try.prog.info? 39).map (fun i => (i.zero, i.size, i.bytes)) = some (some (.int .u32 0), 1, 4) := by kernel_rfl
theorem madeC (n : Nat) : madeCells #[Value.int .u32 0] n = cC (List.replicate n 0) := by
  rw [cC_zero]
  apply Array.ext
  · simp [madeCells]
  · intro i h1 h2; simp [madeCells, Nat.mod_one]
theorem makeC (n : Nat) (h : n ≤ 1000000000) (w : World) : (Instr.makeSlice 31 (.int .i64 n) (.int .i64 n)).run Try.prog w =
    .ok (.slice (some ⟨w.heap.size, 0, none⟩) n n) (w.alloc (.cells (cC (List.replicate n 0)) 39)) := by
  obtain ⟨i0, hi, hz0, hz1, hz2⟩ := info_parts infoC
  have := run_make (P := Try.prog) w 31 39 i0 _ Try.underlying31 hi hz0 .i64 .i64 n n (by omega) (Int.le_refl _) (by rw [hz2]; omega) (by omega)
  rw [this, hz1]
  have e : madeCells (Value.int .u32 0).cells n = cC (List.replicate n 0) := madeC n
  simp [e]

set_option maxHeartbeats 1000000 in
theorem new1 (W H : Nat) (w : World) (w1 : 1 ≤ W) (w2 : W ≤ 256) (h1 : 1 ≤ H) (h2 : H ≤ 256) :
    Calls Try.prog 55 #[.int .i64 W, .int .i64 H] w (fun e w' => ∃ pm pc, e = .returned (.tuple #[.pointer (some ⟨pm, 0, none⟩), .int .i64 0]) ∧ Img w' pm pc W H (List.replicate (W * H) 0) ∧ w.heap.size ≤ pm ∧ w.heap.size ≤ pc ∧ Gr w w') := by
  have hle := area_le w2 h2
  have e1 : IntKind.i64.wrap ((W : Int) * (H : Int)) = ((W * H : Nat) : Int) := by rw [← Int.natCast_mul]; exact IntWalk.i64_in _ (by omega)
  have q1 : wrap64 ((W : Int) * (H : Int)) = ((W * H : Nat) : Int) := by rw [← Int.natCast_mul]; exact w64 (by omega) (by omega)
  obtain ⟨n, hn⟩ : ∃ n, n = W * H := ⟨_, rfl⟩
  rw [← hn] at e1 q1 hle ⊢
  have hnn := Lib.hid hn
  clear hn
  have mk := makeC n (by omega)
  generalize hL : List.replicate n (0 : Int) = L at mk ⊢
  have hLL := Lib.hid hL
  clear hL
  have a1 := (At.new w (cC L) 39).alloc (.cells #[.int .i64 W, .int .i64 H, .slice (some ⟨w.heap.size, 0, none⟩) n n] 105)
  have a2 := At.newAt (w := w.alloc (.cells (cC L) 39)) (n := w.heap.size + 1) (by simp) #[.int .i64 W, .int .i64 H, .slice (some ⟨w.heap.size, 0, none⟩) n n] 105
  go_enter Try.func55, Try.ntmps55
  go_wp2
  go_ret2
  have hl : L.length = n := by rw [← hLL.out]; simp
  exact ⟨w.heap.size + 1, w.heap.size, rfl, { hd := by rw [hl]; exact a2, cs := a1, len := hl.trans hnn.out, w1 := w1, w2 := w2, h1 := h1, h2 := h2, ne := by omega }, by omega, by omega, ((Gr.refl w).alloc _).alloc _⟩

end Go.Proofs.Ytafceieenhogpaa
namespace Go.Proofs.Ytafceieenhogpaa
open Go.RowKit Go.Sort Go.Shelf

attribute [local go_sem] Oper.semAt_some

set_option maxHeartbeats 1000000 in
theorem span0 {pm pc W H n C : Nat} (w : World) (hd : At w pm #[.int .i64 W, .int .i64 H, .slice (some ⟨pc, 0, none⟩) n C] 105) (hC : n ≤ C) (hn : n = W * H) (hW : W ≤ 256) (hH : H ≤ 256) (y x0 x1 : Nat) (hy : y < H) (hx : x0 < x1) (hw : x1 ≤ W) :
    Calls Try.prog 67 #[.pointer (some ⟨pm, 0, none⟩), .int .i64 y, .int .i64 x0, .int .i64 x1] w (fun e w' => e = .returned (.slice (some ⟨pc, y * W + x0, none⟩) (x1 - x0) (C - (y * W + x0))) ∧ ∃ n, w' = w.drewN n) := by
  have hk := row_of (show x0 < W by omega) hy
  have hk2 := row_of (show x1 - 1 < W by omega) hy
  have hle := area_le hW hH
  rw [← hn] at hk hk2 hle
  have e1 : IntKind.i64.wrap ((y : Int) * (W : Int)) = ((y * W : Nat) : Int) := by rw [← Int.natCast_mul]; exact IntWalk.i64_in _ (by omega)
  have e2 : IntKind.i64.wrap (((y * W : Nat) : Int) + (x0 : Int)) = ((y * W + x0 : Nat) : Int) := by rw [← Int.natCast_add]; exact IntWalk.i64_in _ (by omega)
  have e3 : IntKind.i64.wrap (((y * W : Nat) : Int) + (x1 : Int)) = ((y * W + x1 : Nat) : Int) := by rw [← Int.natCast_add]; exact IntWalk.i64_in _ (by omega)
  have k0 : w.cell? ⟨pm, 0, none⟩ = some (.int .i64 W) := hd.cell 0
  have k2 : w.cell? ⟨pm, 2, none⟩ = some (.slice (some ⟨pc, 0, none⟩) n C) := hd.cell 2
  have h1 : y * W + x0 < y * W + x1 := by omega
  have h2 : y * W + x1 ≤ C := by omega
  have h3 : y * W + x1 - (y * W + x0) = x1 - x0 := by omega
  rw [← h3]
  clear h3 hk hk2 hn
  generalize y * W + x0 = k at *
  generalize y * W + x1 = k' at *
  generalize y * W = p at *
  clear hd
  go_enter Try.func67, Try.ntmps67
  go_wp2
  go_quiet (fail)
  go_wp2
  go_ret
  exact ⟨rfl, _, rfl⟩
theorem span1 {pm pc W H : Nat} {L : List Int} (w : World) (hI : Img w pm pc W H L) (y x0 x1 : Nat) (hy : y < H) (hx : x0 < x1) (hw : x1 ≤ W) :
    Calls Try.prog 67 #[.pointer (some ⟨pm, 0, none⟩), .int .i64 y, .int .i64 x0, .int .i64 x1] w (fun e w' => e = .returned (.slice (some ⟨pc, y * W + x0, none⟩) (x1 - x0) (L.length - (y * W + x0))) ∧ ∃ n, w' = w.drewN n) :=
  span0 w hI.hd (Nat.le_refl _) hI.len hI.w2 hI.h2 y x0 x1 hy hx hw

set_option maxHeartbeats 1000000 in
theorem spans1 (pm : Nat) (a b c d : Int) (w : World) :
    Calls Try.prog 64 #[.pointer (some ⟨pm, 0, none⟩), .agg #[.int .i64 a, .int .i64 b, .int .i64 c, .int .i64 d]] w (fun e w' => e = .returned (.func (.func 90) #[] #[.pointer (some ⟨w.heap.size + 1, 0, none⟩), .pointer (some ⟨w.heap.size, 0, none⟩)]) ∧
      w' = (w.alloc (.cells #[.pointer (some ⟨pm, 0, none⟩)] 36)).alloc (.cells #[.int .i64 a, .int .i64 b, .int .i64 c, .int .i64 d] 24)) := by
  go_enter Try.func64, Try.ntmps64
  go_wp2
  go_ret
  exact ⟨rfl, rfl⟩

/-- What a round that goes on keeps: three blocks. -/
def Keep3 (p q r : Nat) (A B : World) : Prop := B.heap[p]? = A.heap[p]? ∧ B.heap[q]? = A.heap[q]? ∧ B.heap[r]? = A.heap[r]?
theorem Keep3.refl (p q r : Nat) (A : World) : Keep3 p q r A A := ⟨rfl, rfl, rfl⟩
theorem Keep3.trans {p q r : Nat} {A B C : World} (h : Keep3 p q r A B) (k : Keep3 p q r B C) : Keep3 p q r A C := ⟨k.1.trans h.1, k.2.1.trans h.2.1, k.2.2.trans h.2.2⟩
theorem Keep3.book {p q r : Nat} {w : World} (hp : p < w.heap.size) (hq : q < w.heap.size) (hr : r < w.heap.size) (W : World) (l : Nat) (o o' : Obj) (hl : w.heap.size ≤ l) (_ : W.heap[l]? = some o) (_ : o.isCells = false) (_ : o.isWalk = false) : Keep3 p q r W (W.putObj l o') :=
  ⟨World.putObj_heap_other (by omega), World.putObj_heap_other (by omega), World.putObj_heap_other (by omega)⟩
theorem At.same {w w' : World} {b : Nat} {cs : Array Value} {t : TypeId} (h : At w b cs t) (e : w'.heap[b]? = w.heap[b]?) : At w' b cs t := by unfold At at *; rw [e]; exact h
theorem range'_succ_snoc (a k : Nat) : List.range' a (k + 1) = List.range' a k ++ [a + k] := by rw [List.range'_concat]; simp

/-- What spans tells of a row y. -/
def rowV (pc W n x0 x1 : Nat) {H : Nat} (y : Fin H) : Array Value := #[.int .i64 (y.1 : Int), .slice (some ⟨pc, y.1 * W + x0, none⟩) (x1 - x0) (n - (y.1 * W + x0))]

set_option maxRecDepth 100000 in
set_option maxHeartbeats 2000000 in
theorem spansIter (n : Nat) (hn : 1 ≤ n) (l Bm Br tm tr pm pc W H N C x0 x1 y0 y1 : Nat) (J Jx : List (Fin H) → World → Prop) (hx : y0 < y1 → x0 < x1) (hw : x1 ≤ W) (hy : y0 ≤ y1) (hh : y1 ≤ H)
    (hA : ∀ pre A B, J pre A → A.grownBy B none → J pre B)
    (hY : ∀ pre y W1, J pre W1 → pre.length < y1 - y0 → YieldAt Fence.wide (n - 1) Try.prog l (rowV pc W C x0 x1 y) W1 fun e W' =>
      (e = .returned (.bool true) ∧ J (pre ++ [y]) W' ∧ Keep3 pm Bm Br W1 W') ∨ (e = .returned (.bool false) ∧ Jx (pre ++ [y]) W'))
    (V : World) (hd : At V pm #[.int .i64 W, .int .i64 H, .slice (some ⟨pc, 0, none⟩) N C] 105) (hC : N ≤ C) (hl : N = W * H) (hW : W ≤ 256) (hH : H ≤ 256) (hbm : At V Bm #[.pointer (some ⟨pm, 0, none⟩)] tm) (hbr : At V Br #[.int .i64 x0, .int .i64 y0, .int .i64 x1, .int .i64 y1] tr) (h0 : J [] V) :
    CallsIn Fence.wide n Try.prog 90 #[.func (.yield l) #[] #[], .pointer (some ⟨Br, 0, none⟩), .pointer (some ⟨Bm, 0, none⟩)] V fun e W' => (∃ v, e = .returned v) ∧
      ((∃ ys : List (Fin H), ys.map (·.1) = List.range' y0 (y1 - y0) ∧ J ys W') ∨ (∃ pre : List (Fin H), pre.map (·.1) <+: List.range' y0 (y1 - y0) ∧ Jx pre W')) := by
  refine callsIn_of_wp Try.func90 rfl trivial ?_ rfl
  simp only [Try.ntmps90, List.size_toArray, List.length_cons, List.length_nil, Nat.reduceAdd, Nat.reduceSub, Array.replicate_succ, Array.replicate_zero, List.push_toArray, List.append_toArray, List.nil_append, List.cons_append]
  have b1 : V.cell? ⟨Br, 1, none⟩ = some (.int .i64 y0) := hbr.cell 1
  gi_wp2
  clear b1
  gi_loopw [4] (fun i wr => ∃ (y : Nat) (pre : List (Fin H)), y0 ≤ y ∧ y ≤ y1 ∧ i = .int .i64 y ∧ pre.map (·.1) = List.range' y0 (y - y0) ∧ J pre wr ∧ Keep3 pm Bm Br V wr)
    (fun i _ => y1 - (intOf i).toNat)
  case atStart => exact ⟨y0, [], Nat.le_refl _, hy, rfl, by simp, h0, Keep3.refl _ _ _ _⟩
  case round =>
    obtain ⟨y, pre, hy0, hy1, rfl, hpre, hJ, hK⟩ := hrel
    have R := hbr.same hK.2.2
    have M := hbm.same hK.2.1
    have D := hd.same hK.1
    have r0 : wr.cell? ⟨Br, 0, none⟩ = some (.int .i64 x0) := R.cell 0
    have r2 : wr.cell? ⟨Br, 2, none⟩ = some (.int .i64 x1) := R.cell 2
    have r3 : wr.cell? ⟨Br, 3, none⟩ = some (.int .i64 y1) := R.cell 3
    have m0 : wr.cell? ⟨Bm, 0, none⟩ = some (.pointer (some ⟨pm, 0, none⟩)) := M.cell 0
    have hlen : pre.length = y - y0 := by have := congrArg List.length hpre; simpa using this
    by_cases hlt : y < y1
    · have cs := span0 wr D hC hl hW hH y x0 x1 (by omega) (hx (by omega)) hw
      obtain ⟨v, hv⟩ : ∃ v, v = Value.slice (some ⟨pc, y * W + x0, none⟩) (x1 - x0) (C - (y * W + x0)) := ⟨_, rfl⟩
      have rv : rowV pc W C x0 x1 (⟨y, by omega⟩ : Fin H) = #[.int .i64 y, v] := by rw [hv]; rfl
      rw [← hv] at cs
      clear hv
      have hYY := fun q => hY pre ⟨y, by omega⟩ (wr.drewN q) (hA _ _ _ hJ ((Gr.refl wr).drewN q |>.by none)) (by omega)
      rw [rv] at hYY
      have hpre' := Lib.hid hpre
      clear hpre rv hY
      have hlen' := Lib.hid hlen
      clear hlen
      gi_wp2_with (refine ⟨trivial, ?_⟩; gi_at_call 67; refine (callsIn_wide.2 cs).mono ?_; rintro e w' ⟨rfl, q, rfl⟩; obtain ⟨fn, tmps, assign, body, hyy, hR⟩ := hYY q)
      refine hR.mono ?_
      rintro e W3 (⟨rfl, hJ3, hk3⟩ | ⟨rfl, hJx3⟩)
      · gi_wp2
        go_roundw
        case rel => exact ⟨y + 1, pre ++ [⟨y, by omega⟩], by omega, by omega, by simp, by rw [List.map_append, hpre'.out, show y + 1 - y0 = (y - y0) + 1 by omega, range'_succ_snoc]; simp; omega, hJ3, hK.trans hk3⟩
        case measure => simp [intOf]; omega
      · gi_wp2
        refine bodyPost_ret (results_none rfl _ _ _) rfl ?_
        refine ⟨⟨_, rfl⟩, .inr ⟨pre ++ [⟨y, by omega⟩], ?_, hJx3⟩⟩
        rw [List.map_append, hpre'.out]
        refine ⟨List.range' (y + 1) (y1 - (y + 1)), ?_⟩
        rw [show y1 - y0 = (y - y0) + (1 + (y1 - (y + 1))) by omega, ← List.range'_append_1, ← List.range'_append_1]
        simp
        omega
    · obtain rfl : y = y1 := by omega
      gi_wp2
      go_end0
      exact ⟨⟨_, rfl⟩, .inl ⟨pre, hpre, hJ⟩⟩

theorem spansStops (n : Nat) (hn : 1 ≤ n) (Bm Br tm tr pm pc W H N C x0 x1 y0 y1 : Nat) (hx : y0 < y1 → x0 < x1) (hw : x1 ≤ W) (hy : y0 ≤ y1) (hh : y1 ≤ H)
    (V : World) (hd : At V pm #[.int .i64 W, .int .i64 H, .slice (some ⟨pc, 0, none⟩) N C] 105) (hC : N ≤ C) (hl : N = W * H) (hW : W ≤ 256) (hH : H ≤ 256) (hbm : At V Bm #[.pointer (some ⟨pm, 0, none⟩)] tm) (hbr : At V Br #[.int .i64 x0, .int .i64 y0, .int .i64 x1, .int .i64 y1] tr) :
    SeqStopsK Fence.wide n Try.prog 90 #[.pointer (some ⟨Br, 0, none⟩), .pointer (some ⟨Bm, 0, none⟩)] (fun y : Fin H => rowV pc W C x0 x1 y) (Keep3 pm Bm Br)
      (fun ys => ys.map (·.1) = List.range' y0 (y1 - y0)) (fun pre => pre.map (·.1) <+: List.range' y0 (y1 - y0)) (y1 - y0) V := fun l J Jx W' hW' hJ _ hY h0 =>
  spansIter n hn l Bm Br tm tr pm pc W H N C x0 x1 y0 y1 J Jx hx hw hy hh (fun pre A B h hg => hJ pre A B none h hg (fun r e => by cases e)) hY W'
    (hd.same (hW'.block _ hd.lt)) hC hl hW hH (hbm.same (hW'.block _ hbm.lt)) (hbr.same (hW'.block _ hbr.lt)) h0

end Go.Proofs.Ytafceieenhogpaa
namespace Go.Proofs.Ytafceieenhogpaa
open Go.RowKit Go.Sort Go.Shelf

attribute [local go_sem] Oper.semAt_some

/-- Values put in from place k on. -/
def putRun : List Int → Nat → List Int → List Int
  | L, _, [] => L
  | L, k, v :: vs => putRun (L.set k v) (k + 1) vs
theorem putRun_len : ∀ (vs L : List Int) (k : Nat), (putRun L k vs).length = L.length
  | [], _, _ => rfl
  | v :: vs, L, k => by unfold putRun; rw [putRun_len vs]; simp
theorem putRun_snoc : ∀ (vs L : List Int) (k : Nat) (v : Int), putRun L k (vs ++ [v]) = (putRun L k vs).set (k + vs.length) v
  | [], L, k, v => by simp [putRun]
  | u :: vs, L, k, v => by
    show putRun (L.set k u) (k + 1) (vs ++ [v]) = (putRun (L.set k u) (k + 1) vs).set (k + (vs.length + 1)) v
    rw [putRun_snoc vs]; congr 1; omega
theorem putRun_get : ∀ (vs L : List Int) (k i : Nat), (putRun L k vs)[i]? = if k ≤ i ∧ i < k + vs.length ∧ i < L.length then vs[i - k]? else L[i]?
  | [], L, k, i => by
    rw [if_neg (by simp; omega)]; rfl
  | v :: vs, L, k, i => by
    show (putRun (L.set k v) (k + 1) vs)[i]? = _
    rw [putRun_get vs]
    simp only [List.length_set, List.length_cons]
    by_cases h : k + 1 ≤ i ∧ i < k + 1 + vs.length ∧ i < L.length
    · rw [if_pos h, if_pos (by omega), show i - k = (i - (k + 1)) + 1 by omega]; rfl
    · rw [if_neg h, List.getElem?_set]
      by_cases h2 : k = i
      · subst h2
        by_cases h3 : k < L.length
        · simp [h3]
        · simp [h3]
      · rw [if_neg h2, if_neg (by omega)]

/-- Rows y of W colors, from x0 up to x1, that are filled. -/
def fillR (W x0 x1 : Nat) (c : Int) (L : List Int) (ys : List Nat) : List Int := ys.foldl (fun L y => putRun L (y * W + x0) (List.replicate (x1 - x0) c)) L
theorem fillR_len (W x0 x1 : Nat) (c : Int) : ∀ (ys : List Nat) (L : List Int), (fillR W x0 x1 c L ys).length = L.length
  | [], _ => rfl
  | y :: ys, L => by
    show (fillR W x0 x1 c (putRun L _ _) ys).length = _
    rw [fillR_len W x0 x1 c ys, putRun_len]
theorem fillR_snoc (W x0 x1 : Nat) (c : Int) (ys : List Nat) (L : List Int) (y : Nat) : fillR W x0 x1 c L (ys ++ [y]) = putRun (fillR W x0 x1 c L ys) (y * W + x0) (List.replicate (x1 - x0) c) := by simp [fillR]

theorem ownAt {β : Type} (B b : Nat) (cs : β → Array Value) (t : TypeId) : OwnFrom B (fun s W => At W b (cs s) t) := fun s X Y row hs hg hr =>
  hs.kept hg (fun e => by obtain ⟨_, o, ho, hc⟩ := hr b e.symm; rw [show X.heap[b]? = _ from hs] at ho; cases ho; cases hc)
theorem ownImg {β : Type} (B pm pc W H : Nat) (L : β → List Int) : OwnFrom B (fun s V => Img V pm pc W H (L s)) := fun s X Y row hs hg hr =>
  hs.kept hg (fun e => by obtain ⟨_, o, ho, hc⟩ := hr pm e.symm; rw [show X.heap[pm]? = _ from hs.hd] at ho; cases ho; cases hc)
    (fun e => by obtain ⟨_, o, ho, hc⟩ := hr pc e.symm; rw [show X.heap[pc]? = _ from hs.cs] at ho; cases ho; cases hc)
theorem ownBy {β : Type} {B : Nat} {w0 : World} (row0 : Option Nat) (h : w0.heap.size ≤ B) : OwnFrom B (fun (_ : β) V => w0.grownBy V row0) := fun _ X Y row hs hg hr =>
  ⟨hg.os.trans hs.os, hg.tape.trans hs.tape, hg.output.trans hs.output, Nat.le_trans hs.size hg.size, fun k hk hne => (hg.block k (Nat.lt_of_lt_of_le hk hs.size) (fun e => by have := (hr k e.symm).1; omega)).trans (hs.block k hk hne)⟩

theorem then_false {K : Act → World → Prop} {Q : Exit → Act → World → Prop} : ∀ e a w, Exit.then K (fun _ _ _ => False) e a w → Exit.then K Q e a w := by
  intro e a w h
  cases e <;> first | exact h | exact h.elim
/-- A block that was not there may be turned. -/
theorem by_row {a b c : World} {row : Option Nat} {r : Nat} (h : a.grownBy b row) (g : b.grownBy c (some r)) (hr : a.heap.size ≤ r) : a.grownBy c row :=
  ⟨g.os.trans h.os, g.tape.trans h.tape, g.output.trans h.output, Nat.le_trans h.size g.size, fun k hk hne => (g.block k (Nat.lt_of_lt_of_le hk h.size) (fun e => by cases e; omega)).trans (h.block k hk hne)⟩
theorem cells4 {w : World} {b : Nat} {v0 v1 v2 v3 : Value} {t : TypeId} (h : At w b #[v0, v1, v2, v3] t) : w.cell? ⟨b, 0, none⟩ = some v0 ∧ w.cell? ⟨b, 1, none⟩ = some v1 ∧ w.cell? ⟨b, 2, none⟩ = some v2 ∧ w.cell? ⟨b, 3, none⟩ = some v3 := ⟨h.cell 0, h.cell 1, h.cell 2, h.cell 3⟩
theorem free4 {w : World} {b : Nat} {cs : Array Value} {t : TypeId} (h : At w b cs t) : w.frozen? ⟨b, 0, none⟩ = false ∧ w.frozen? ⟨b, 1, none⟩ = false ∧ w.frozen? ⟨b, 2, none⟩ = false ∧ w.frozen? ⟨b, 3, none⟩ = false := ⟨h.free 0, h.free 1, h.free 2, h.free 3⟩

set_option maxRecDepth 100000 in
set_option maxHeartbeats 2000000 in
theorem fill1 {pm pc W H : Nat} {L : List Int} (w : World) (hI : Img w pm pc W H L) (a b c d : Int) (q : Int) (hq : C32 q) (hm : mayC q = true) (x0 x1 y0 y1 : Nat) (hcut : cutR a b c d 0 0 W H = ⟨x0, y0, x1, y1⟩) (hx0 : x0 ≤ x1) (hx : y0 < y1 → x0 < x1) (hw : x1 ≤ W) (hy : y0 ≤ y1) (hh : y1 ≤ H) :
    Calls Try.prog 20 #[.pointer (some ⟨pm, 0, none⟩), .agg #[.int .i64 a, .int .i64 b, .int .i64 c, .int .i64 d], .int .u32 q] w
      (fun e w' => e = .returned (.int .i64 (areaI x0 y0 x1 y1)) ∧ w.grownBy w' (some pc) ∧ Img w' pm pc W H (fillR W x0 x1 q L (List.range' y0 (y1 - y0)))) := by
  have cm := fun w => cmay1 q w hq
  rw [hm] at cm
  have cc := fun w => cut1 a b c d 0 0 W H w
  rw [hcut] at cc
  dsimp only at cc
  clear hcut
  have mixed : Try.prog.follows .mixedOrders = true := by kernel_rfl
  refine (callsIn_wide (n := 5)).1 ?_
  refine callsIn_of_wp_marks Try.func20 rfl trivial ?_ rfl
  simp only [Try.ntmps20, List.size_toArray, List.length_cons, List.length_nil, Nat.reduceAdd, Nat.reduceSub, Array.replicate_succ, Array.replicate_zero, List.push_toArray, List.append_toArray, List.nil_append, List.cons_append]
  gi_wp2_with fail
  refine ⟨trivial, ?_⟩
  refine (callsIn_wide.2 (cm _)).mono ?_
  rintro e w1 ⟨rfl, g1⟩
  have I1 := hI.gr (((Gr.refl w).alloc _).alloc _ |>.trans g1)
  have r1 := (((At.new w #[.int .i64 a, .int .i64 b, .int .i64 c, .int .i64 d] 24).alloc (.cells #[.int .u32 q] 39)).gr g1)
  have q1 := (At.newAt (w := w.alloc (.cells #[.int .i64 a, .int .i64 b, .int .i64 c, .int .i64 d] 24)) (n := w.heap.size + 1) (by simp) #[.int .u32 q] 39).gr g1
  have G1 := ((((Gr.refl w).alloc _).alloc _).trans g1)
  gi_wp2
  rename_i K hK
  have rest : ∀ V : World, At V w.heap.size #[.int .i64 x0, .int .i64 y0, .int .i64 x1, .int .i64 y1] 24 → At V (w.heap.size + 1) #[.int .u32 q] 39 → Gr w V →
      K { tmps := #[.pointer (some ⟨pm, 0, none⟩), .agg #[.int .i64 a, .int .i64 b, .int .i64 c, .int .i64 d], .int .u32 q, undef, .pointer (some ⟨w.heap.size, 0, none⟩), .pointer (some ⟨w.heap.size + 1, 0, none⟩), .int .i64 0, undef, undef, undef, .int .u32 q, .bool true, .bool false,
          .agg #[.int .i64 a, .int .i64 b, .int .i64 c, .int .i64 d], .pointer (some ⟨pm, 0, none⟩), .agg #[.int .i64 0, .int .i64 0, .int .i64 W, .int .i64 H], .agg #[.int .i64 x0, .int .i64 y0, .int .i64 x1, .int .i64 y1],
          undef, undef, undef, undef, undef, undef, undef, undef, undef, undef, undef, undef, undef, undef, undef, undef, undef], defers := [] } V := by
    intro V R4 q4 G4
    refine hK _ _ ?_
    clear hK r1 q1 I1 G1 g1 cm cc mixed
    have I4 := hI.gr G4
    have hlt4 := hI.hd.lt
    have hlt5 := hI.cs.lt
    obtain ⟨t0, t1, t2, t3⟩ := cells4 R4
    gi_wp2_with fail
    refine ⟨trivial, ?_⟩
    refine (callsIn_wide.2 (spans1 _ _ _ _ _ _)).mono ?_
    rintro e w5 ⟨rfl, rfl⟩
    clear t0 t1 t2 t3
    have bm := (At.new V #[.pointer (some ⟨pm, 0, none⟩)] 36).alloc (.cells #[.int .i64 x0, .int .i64 y0, .int .i64 x1, .int .i64 y1] 24)
    have br := At.newAt (w := V.alloc (.cells #[.pointer (some ⟨pm, 0, none⟩)] 36)) (n := V.heap.size + 1) (by simp) #[.int .i64 x0, .int .i64 y0, .int .i64 x1, .int .i64 y1] 24
    have I5 := (I4.gr ((Gr.refl V).alloc (.cells #[.pointer (some ⟨pm, 0, none⟩)] 36))).gr ((Gr.refl _).alloc (.cells #[.int .i64 x0, .int .i64 y0, .int .i64 x1, .int .i64 y1] 24))
    have R5 := (R4.gr ((Gr.refl V).alloc (.cells #[.pointer (some ⟨pm, 0, none⟩)] 36))).gr ((Gr.refl _).alloc (.cells #[.int .i64 x0, .int .i64 y0, .int .i64 x1, .int .i64 y1] 24))
    have q5 := (q4.gr ((Gr.refl V).alloc (.cells #[.pointer (some ⟨pm, 0, none⟩)] 36))).gr ((Gr.refl _).alloc (.cells #[.int .i64 x0, .int .i64 y0, .int .i64 x1, .int .i64 y1] 24))
    have G5 := (G4.alloc (.cells #[.pointer (some ⟨pm, 0, none⟩)] 36)).alloc (.cells #[.int .i64 x0, .int .i64 y0, .int .i64 x1, .int .i64 y1] 24)
    have hs4 := G4.size
    have hs5 : ((V.alloc (.cells #[.pointer (some ⟨pm, 0, none⟩)] 36)).alloc (.cells #[.int .i64 x0, .int .i64 y0, .int .i64 x1, .int .i64 y1] 24)).heap.size = V.heap.size + 2 := by simp
    have hlr := R4.lt
    gi_wp2
    obtain ⟨U, hU⟩ : ∃ U, U = (V.alloc (.cells #[.pointer (some ⟨pm, 0, none⟩)] 36)).alloc (.cells #[.int .i64 x0, .int .i64 y0, .int .i64 x1, .int .i64 y1] 24) := ⟨_, rfl⟩
    rw [← hU] at bm br I5 R5 q5 G5 hs5 ⊢
    clear hU
    refine wpIn_rangeFunc_ownG rfl (by omega) (gf := 90) (lb := #[.pointer (some ⟨V.heap.size + 1, 0, none⟩), .pointer (some ⟨V.heap.size, 0, none⟩)]) rfl trivial (enters_of Try.func90 (by kernel_rfl) rfl)
      (spansStops (5 - 1) (by omega) V.heap.size (V.heap.size + 1) _ _ pm pc W H L.length L.length x0 x1 y0 y1 hx hw hy hh U I5.hd (Nat.le_refl _) I5.len I5.w2 I5.h2 bm br)
      (fun h k => h.trans k) (Keep3.book (by omega) (by omega) (by omega)) (Below.refl _ _) (fun _ => rfl)
      (fun pre V' => Img V' pm pc W H (fillR W x0 x1 q L (pre.map (·.1))) ∧ At V' w.heap.size #[.int .i64 x0, .int .i64 y0, .int .i64 x1, .int .i64 y1] 24 ∧ At V' (w.heap.size + 1) #[.int .u32 q] 39 ∧ w.grownBy V' (some pc))
      (fun _ _ _ => False)
      ((ownImg _ _ _ _ _ _).and ((ownAt _ _ _ _).and ((ownAt _ _ _ _).and (ownBy _ (by omega)))))
      (fun _ _ _ _ _ hs _ _ => hs)
      ⟨I5, R5, q5, G5.by _⟩
      (fun x => { tmps := #[.pointer (some ⟨pm, 0, none⟩), .agg #[.int .i64 a, .int .i64 b, .int .i64 c, .int .i64 d], .int .u32 q, undef, .pointer (some ⟨w.heap.size, 0, none⟩), .pointer (some ⟨w.heap.size + 1, 0, none⟩), .int .i64 0, undef, .slice (some ⟨pc, x.1 * W + x0, none⟩) (x1 - x0) (L.length - (x.1 * W + x0)), undef, .int .u32 q, .bool true, .bool false,
          .agg #[.int .i64 a, .int .i64 b, .int .i64 c, .int .i64 d], .pointer (some ⟨pm, 0, none⟩), .agg #[.int .i64 0, .int .i64 0, .int .i64 W, .int .i64 H], .agg #[.int .i64 x0, .int .i64 y0, .int .i64 x1, .int .i64 y1],
          .pointer (some ⟨pm, 0, none⟩), .agg #[.int .i64 x0, .int .i64 y0, .int .i64 x1, .int .i64 y1], .func (.func 90) #[] #[.pointer (some ⟨V.heap.size + 1, 0, none⟩), .pointer (some ⟨V.heap.size, 0, none⟩)], .int .i64 (x.1 : Int), .slice (some ⟨pc, x.1 * W + x0, none⟩) (x1 - x0) (L.length - (x.1 * W + x0)),
          undef, undef, undef, undef, undef, undef, undef, undef, undef, undef, undef, undef], defers := [] }) ?assign ?body ?done ?stop
    case assign =>
      intro l x W' K' hK'
      dsimp only [rowV]
      gi_wp2
      exact hK'
    case body =>
      rintro l pre x W' ⟨hi, hr, hc, hb⟩ hlen
      have hf : fillR W x0 x1 q L ((pre ++ [x]).map (·.1)) = putRun (fillR W x0 x1 q L (pre.map (·.1))) (x.1 * W + x0) (List.replicate (x1 - x0) q) := by rw [List.map_append]; exact fillR_snoc _ _ _ _ _ _ _
      have hp : x.1 * W + x0 + (x1 - x0) ≤ L.length := by
        have := row_of (show x1 - 1 < W by omega) x.2
        rw [← hI.len] at this
        have := hx (by omega)
        omega
      have hFl : (fillR W x0 x1 q L (pre.map (·.1))).length = L.length := fillR_len _ _ _ _ _ _
      have hle := area_le hI.w2 hI.h2
      rw [← hI.len] at hle
      generalize fillR W x0 x1 q L (pre.map (·.1)) = F at *
      generalize L.length = n at *
      generalize x.1 * W + x0 = p at *
      obtain ⟨m, hm'⟩ : ∃ m, m = x1 - x0 := ⟨_, rfl⟩
      rw [← hm'] at hf hp ⊢
      clear hm'
      obtain ⟨cc, hcc⟩ : ∃ cc, cc = n - p := ⟨_, rfl⟩
      have hmc : m ≤ cc := by omega
      rw [← hcc]
      clear hcc
      have hf' := Lib.hid hf
      have hFl' := Lib.hid hFl
      clear hf hFl
      gi_wp2
      gi_loopw [24] (fun i wr => ∃ k : Nat, k ≤ m ∧ i = .int .i64 k ∧ Img wr pm pc W H (putRun F p (List.replicate k q)) ∧ At wr w.heap.size #[.int .i64 x0, .int .i64 y0, .int .i64 x1, .int .i64 y1] 24 ∧ At wr (w.heap.size + 1) #[.int .u32 q] 39 ∧ w.grownBy wr (some pc) ∧ KeepsOthers W' wr ∧ Keep3 pm V.heap.size (V.heap.size + 1) W' wr)
        (fun i _ => m - (intOf i).toNat)
      case atStart => exact ⟨0, Nat.zero_le _, rfl, hi, hr, hc, hb, KeepsOthers.refl _, Keep3.refl _ _ _ _⟩
      case round =>
        obtain ⟨k, hk, rfl, Ik, rk, qk, bk, ok, kk⟩ := hrel
        by_cases hlt : k < m
        · obtain ⟨old, hold⟩ : ∃ old, (putRun F p (List.replicate k q))[p + k]? = some old := list_at (by rw [putRun_len, hFl'.out]; omega)
          have c1 := Ik.at hold
          have f1 := Ik.cs.free (p + k)
          have c2 : wr.cell? ⟨w.heap.size + 1, 0, none⟩ = some (.int .u32 q) := qk.cell 0
          clear hold
          gi_wp2
          go_roundw
          case rel =>
            refine ⟨k + 1, by omega, by simp, ?_, rk.far (p := ⟨pc, p + k, none⟩) (by simp; omega) _, qk.far (p := ⟨pc, p + k, none⟩) (by simp; omega) _, by_set (p := ⟨pc, p + k, none⟩) bk _, ok.trans (KeepsOthers.setCell _ _ _), kk.trans ⟨Below.heap_setCell _ _ _ _ (by simp; exact hI.ne), Below.heap_setCell _ _ _ _ (by simp; omega), Below.heap_setCell _ _ _ _ (by simp; omega)⟩⟩
            have := Ik.set (p + k) q
            rw [List.replicate_succ', putRun_snoc, List.length_replicate]
            exact this
          case measure => simp [intOf]; omega
        · obtain rfl : k = m := by omega
          gi_wp2
          exact ⟨ok.from _, kk, by rw [hf'.out]; exact Ik, rk, qk, bk⟩
    case done =>
      rintro D ys W' hD hys ⟨hi, hr, hc, hb⟩ hK'
      have hys' := Lib.hid hys
      clear hys
      obtain ⟨t0, t1, t2, t3⟩ := cells4 hr
      have hmay : mayB x0 y0 x1 y1 = true := by
        have := hI.w2; have := hI.h2
        rcases Nat.lt_or_ge y0 y1 with h | h
        · have := hx h; simp [mayB]; omega
        · simp [mayB]; omega
      gi_wp2_with fail
      refine ⟨trivial, ?_⟩
      refine (callsIn_wide.2 (area1 _ _ _ _ _ hmay)).mono ?_
      rintro e w6 ⟨rfl, g6⟩
      have hK6 : w6.heap[D]? = some (.deferred (some [])) := (g6.below.block D (Array.getElem?_eq_some_iff.1 hK').1).trans hK'
      gi_wp2
      refine ⟨by simp, .inl ⟨_, _, rfl, run_takeDeferred hK6, ?_⟩⟩
      have hgp := grownBy_putObj' w6 D (.deferred none)
      refine ⟨_, results_tmp rfl _ _ _, rfl, ?_, ?_⟩
      · exact by_row (by_gr hb g6) hgp (by omega)
      · rw [← hys'.out]
        exact (hi.gr g6).kept hgp (by simp; omega) (by simp; omega)
    case stop =>
      rintro D c pre W' _ _ h _
      exact h.elim
  obtain ⟨t0, t1, t2, t3⟩ := cells4 r1
  have bx := fun (V : World) (h : Img V pm pc W H L) => box1 V h
  refine wpIn_mono (Q := Exit.then K (fun _ _ _ => False)) ?_ then_false
  gi_region_with_o (first | (refine ⟨trivial, ?_⟩; gi_at_call 60; refine (callsIn_wide.2 (bx _ (I1.gr (Gr.refl _).drew))).mono ?_; rintro e w2 ⟨rfl, g2⟩; have R2 := r1.drew.gr g2; obtain ⟨a0, a1, a2, a3⟩ := cells4 R2) | (refine ⟨trivial, ?_⟩; gi_at_call 63; refine (callsIn_wide.2 (cc _)).mono ?_; rintro e w3 ⟨rfl, g3⟩; have R3 := R2.gr g3; obtain ⟨b0, b1, b2, b3⟩ := cells4 R3; obtain ⟨f0, f1, f2, f3⟩ := free4 R3))
  all_goals
    refine rest _ (R3.put4 (.int .i64 x0) (.int .i64 y0) (.int .i64 x1) (.int .i64 y1)) ((((((q1.drew).gr g2).gr g3).far (p := ⟨w.heap.size, 0, none⟩) (by simp) (.int .i64 x0)).far (p := ⟨w.heap.size, 1, none⟩) (by simp) (.int .i64 y0)).far (p := ⟨w.heap.size, 2, none⟩) (by simp) (.int .i64 x1) |>.far (p := ⟨w.heap.size, 3, none⟩) (by simp) (.int .i64 y1)) ?_
    exact (((((G1.drew.trans g2).trans g3).setCell (p := ⟨w.heap.size, 0, none⟩) (Nat.le_refl _) (.int .i64 x0)).setCell (p := ⟨w.heap.size, 1, none⟩) (Nat.le_refl _) (.int .i64 y0)).setCell (p := ⟨w.heap.size, 2, none⟩) (Nat.le_refl _) (.int .i64 x1)).setCell (p := ⟨w.heap.size, 3, none⟩) (Nat.le_refl _) (.int .i64 y1)

end Go.Proofs.Ytafceieenhogpaa
namespace Go.Proofs.Ytafceieenhogpaa
open Go.RowKit Go.Sort

theorem Bl.byr {a b : World} (h : Bl a b) (row : Option Nat) : a.grownBy b row := ⟨Below.os h, Below.tape h, Below.output h, h.size, fun k hk _ => Below.block h k hk⟩
theorem Bl.row {a b c : World} {r : Nat} (h : Bl a b) (g : b.grownBy c (some r)) (hr : a.heap.size ≤ r) : Bl a c :=
  ⟨g.os.trans (Below.os h), g.tape.trans (Below.tape h), g.output.trans (Below.output h), Nat.le_trans h.size g.size, fun k hk => (g.block k (Nat.lt_of_lt_of_le hk h.size) (fun e => by cases e; omega)).trans (Below.block h k hk)⟩
theorem Img.bl {w w' : World} {pm pc W H : Nat} {L : List Int} (h : Img w pm pc W H L) (g : Bl w w') : Img w' pm pc W H L := { h with hd := h.hd.bl g, cs := h.cs.bl g }

set_option maxHeartbeats 1000000 in
theorem fill0 (pm : Nat) (w : World) (a b c d : Int) (q : Int) (hq : C32 q) (hm : mayC q = false) :
    Calls Try.prog 20 #[.pointer (some ⟨pm, 0, none⟩), .agg #[.int .i64 a, .int .i64 b, .int .i64 c, .int .i64 d], .int .u32 q] w (Rt w (.int .i64 0)) := by
  have cm := fun w => cmay1 q w hq
  rw [hm] at cm
  go_enter Try.func20, Try.ntmps20
  go_wp2_with fail
  refine (cm _).mono ?_
  rintro e w1 ⟨rfl, g1⟩
  go_wp2
  go_ret
  exact ⟨rfl, (((Gr.refl w).alloc _).alloc _).trans g1⟩

set_option maxHeartbeats 1000000 in
theorem ilives1 (w : World) : Calls Try.prog 26 #[] w (fun e w' => e = .returned (.bool true) ∧ Bl w w') := by
  have cn := new1 3 3 w (by omega) (by omega) (by omega) (by omega)
  have cf := fun (pm pc : Nat) (w : World) (L : List Int) (h : Img w pm pc 3 3 L) => fill1 w h 1 1 9 9 4278190080 (by unfold C32; omega) (by decide) 1 3 1 3 (by rfl) (by omega) (by omega) (by omega) (by omega) (by omega)
  rw [show areaI (1 : Nat) (1 : Nat) (3 : Nat) (3 : Nat) = 4 from rfl] at cf
  go_enter Try.func26, Try.ntmps26
  go_wp2_with fail
  refine cn.mono ?_
  rintro e w1 ⟨pm, pc, rfl, I1, h1, h2, g1⟩
  go_wp2_with fail
  refine (cf pm pc _ _ I1).mono ?_
  rintro e w2 ⟨rfl, g2, _⟩
  go_wp2
  go_ret
  exact ⟨rfl, g1.bl.row g2 h2⟩

end Go.Proofs.Ytafceieenhogpaa
namespace Go.Proofs.Ytafceieenhogpaa
open Go.ChangeShapes Go.WideShapes Go.ChangeAt Go.RowKit Go.Joins Go.Sort Go.Deep

theorem cellsCol : Try.prog.cellsOf 39 = 1 := by kernel_rfl
theorem cellsByte : Try.prog.cellsOf 5 = 1 := by kernel_rfl
def U32 (n : Int) : Prop := 0 ≤ n ∧ n ≤ 4294967295
theorem U32.of_wf {n : Int} (h : (Lit.int .u32 n).wf = true) : U32 n := by
  simp [Lit.wf, IntKind.min, IntKind.max, IntKind.bits, IntKind.signed] at h
  unfold U32
  omega
def U8 (n : Int) : Prop := 0 ≤ n ∧ n ≤ 255
theorem U8.of_wf {n : Int} (h : (Lit.int .u8 n).wf = true) : U8 n := by
  simp [Lit.wf, IntKind.min, IntKind.max, IntKind.bits, IntKind.signed] at h
  unfold U8
  omega

/-- From cell off of block b on lie these numbers. -/
def RowN (k : IntKind) (w : World) (b off : Nat) (L : List Int) : Prop := ∀ i x, L[i]? = some x → w.cell? ⟨b, off + i, none⟩ = some (.int k x)
/-- A slice of that address reads so. -/
def Ns (k : IntKind) (w : World) (A : Option Addr) (L : List Int) : Prop := L = [] ∨ ∃ b off, A = some ⟨b, off, none⟩ ∧ RowN k w b off L

section
variable {H : Type} {enc : TypeId × Value → H} {w : World} {base : Nat} {spare : Nat → Bool} {held : Bool}
set_option maxRecDepth 100000 in
/-- The argument: a row of numbers that came in. -/
theorem open_nums {k : IntKind} {t e : TypeId} (ht : Try.prog.underlying t = some (.slice e)) (he : Try.prog.underlying e = some (.int k)) (hc1 : Try.prog.cellsOf e = 1) {v : Value} {dd : DataW H} {p : List MemPlace} {b0 : Nat} {r : Reach} (hv : Value.okWide Try.prog w r b0 t v) (h : DataW.Trod enc Try.prog w base spare held t v dd p) :
    ∃ (A : Option Addr) (cap : Nat) (L : List Int), v = .slice A L.length cap ∧ L.length ≤ cap ∧ cap ≤ maxLen ∧ Ns k w A L ∧ ∀ x ∈ L, (Lit.int k x).wf = true := by
  obtain ⟨a0, len0, cap0, rfl⟩ := okWide_slice ht hv
  obtain ⟨fuel, hf⟩ := h
  rcases open_slice ht hf with ⟨hc, _⟩ | ⟨a, len, cap, m, n, D, Pl, hc, _, hl, hm, hmm, _, hx⟩
  · simp [Value.cells] at hc
    obtain ⟨rfl, rfl, rfl⟩ := hc
    exact ⟨none, 0, [], rfl, Nat.zero_le _, Nat.zero_le _, .inl rfl, by intro r hr; simp at hr⟩
  · simp [Value.cells] at hc
    obtain ⟨rfl, rfl, rfl⟩ := hc
    by_cases hz : len0 = 0
    · subst hz; exact ⟨_, _, [], rfl, Nat.zero_le _, hm, .inl rfl, by intro r hr; simp at hr⟩
    · have hlm : len0 ≤ m := by rw [hmm]; split <;> omega
      have each : ∀ i, i < m → ∃ q : Int, w.cell? (a.add i) = some (Value.int k q) ∧ (Lit.int k q).wf = true := by
        intro i hi
        obtain ⟨cs', h1, h2⟩ := hx i hi
        rw [hc1] at h1
        obtain ⟨_, hlen, hcell⟩ := World.cells?_some h1
        obtain ⟨q, e0, _, wq⟩ := DataW.trod_int he h2
        refine ⟨q, ?_, wq⟩
        have := hcell 0 (by omega)
        rw [add_add, e0] at this
        simpa using this
      obtain ⟨f, hfq⟩ := choose_lt each
      have h0 := (hfq 0 (by omega)).1
      obtain ⟨b, off, spot⟩ := a
      cases spot with
      | some t =>
        simp [Addr.add, World.cell?] at h0
        exfalso
        split at h0 <;> cases h0
      | none =>
        have ad : ∀ i, (⟨b, off, none⟩ : Addr).add i = ⟨b, off + i, none⟩ := fun i => by unfold Addr.add; split <;> simp_all
        refine ⟨some ⟨b, off, none⟩, cap0, (List.range len0).map f, by simp, by simpa using hl, hm, .inr ⟨b, off, rfl, fun k r hk => ?_⟩, fun r hr => ?_⟩
        · have hkl : k < ((List.range len0).map f).length := by
            rcases Nat.lt_or_ge k ((List.range len0).map f).length with h' | h'
            · exact h'
            · rw [List.getElem?_eq_none h'] at hk; cases hk
          simp at hkl
          simp [hkl] at hk
          subst hk
          have hk' := (hfq k (by omega)).1
          rwa [ad] at hk'
        · rw [List.mem_map] at hr
          obtain ⟨k, hk, rfl⟩ := hr
          rw [List.mem_range] at hk
          exact (hfq k (by omega)).2
set_option maxRecDepth 100000 in
theorem open_colors {v : Value} {dd : DataW H} {p : List MemPlace} {b0 : Nat} {r : Reach} (hv : Value.okWide Try.prog w r b0 31 v) (h : DataW.Trod enc Try.prog w base spare held 31 v dd p) :
    ∃ (A : Option Addr) (cap : Nat) (L : List Int), v = .slice A L.length cap ∧ L.length ≤ cap ∧ cap ≤ maxLen ∧ Ns .u32 w A L ∧ ∀ x ∈ L, C32 x := by
  obtain ⟨A, c, L, h1, h2, h3, h4, h5⟩ := open_nums Try.underlying31 Try.underlying39 cellsCol hv h
  exact ⟨A, c, L, h1, h2, h3, h4, fun x hx => U32.of_wf (h5 x hx)⟩
set_option maxRecDepth 100000 in
theorem open_bytes {v : Value} {dd : DataW H} {p : List MemPlace} {b0 : Nat} {r : Reach} (hv : Value.okWide Try.prog w r b0 40 v) (h : DataW.Trod enc Try.prog w base spare held 40 v dd p) :
    ∃ (A : Option Addr) (cap : Nat) (L : List Int), v = .slice A L.length cap ∧ L.length ≤ cap ∧ cap ≤ maxLen ∧ Ns .u8 w A L ∧ ∀ x ∈ L, U8 x := by
  obtain ⟨A, c, L, h1, h2, h3, h4, h5⟩ := open_nums Try.underlying40 Try.underlying5 cellsByte hv h
  exact ⟨A, c, L, h1, h2, h3, h4, fun x hx => U8.of_wf (h5 x hx)⟩
end

end Go.Proofs.Ytafceieenhogpaa
namespace Go.Proofs.Ytafceieenhogpaa
open Go.RowKit Go.Sort Go.Deep

theorem RowN.bl {k : IntKind} {w w' : World} {b off : Nat} {L : List Int} (h : RowN k w b off L) (g : Bl w w') : RowN k w' b off L := fun i x hi =>
  (Below.cell g (World.block_lt_of_cell? w _ (h i x hi))).trans (h i x hi)
theorem RowN.kept {k : IntKind} {w w' : World} {b off : Nat} {L : List Int} {row : Option Nat} (h : RowN k w b off L) (g : w.grownBy w' row) (hne : some b ≠ row) : RowN k w' b off L := fun i x hi =>
  g.cell (h i x hi) hne
theorem RowN.gr {k : IntKind} {w w' : World} {b off : Nat} {L : List Int} (h : RowN k w b off L) (g : Gr w w') : RowN k w' b off L := h.bl g.bl
theorem Ns.bl {k : IntKind} {w w' : World} {A : Option Addr} {L : List Int} (h : Ns k w A L) (g : Bl w w') : Ns k w' A L := by
  rcases h with h | ⟨b, off, h1, h2⟩
  · exact .inl h
  · exact .inr ⟨b, off, h1, h2.bl g⟩
theorem At.rowC {w : World} {b : Nat} {L : List Int} {t : TypeId} (h : At w b (cC L) t) : RowN .u32 w b 0 L := fun i x hi => by
  rw [Nat.zero_add, h.cell i, cC_get, hi]; rfl

/-- Whose colors may all be. -/
def MayL (L : List Int) : Prop := ∀ c ∈ L, C32 c ∧ mayC c = true
theorem get_of {L : List Int} {i : Nat} {x : Int} (h : L[i]? = some x) : x ∈ L ∧ i < L.length := by
  have hl : i < L.length := by
    rcases Nat.lt_or_ge i L.length with h' | h'
    · exact h'
    · rw [List.getElem?_eq_none h'] at h; cases h
  rw [List.getElem?_eq_getElem hl] at h
  cases h
  exact ⟨List.getElem_mem hl, hl⟩

set_option maxHeartbeats 1000000 in
theorem refNew1 (W H : Nat) (w : World) (w2 : W ≤ 256) (h2 : H ≤ 256) :
    Calls Try.prog 31 #[.int .i64 W, .int .i64 H] w (fun e w' => ∃ b, e = .returned (.agg #[.int .i64 W, .int .i64 H, .slice (some ⟨b, 0, none⟩) (W * H) (W * H)]) ∧ At w' b (cC (List.replicate (W * H) 0)) 39 ∧ w.heap.size ≤ b ∧ Gr w w') := by
  have hle := area_le w2 h2
  have e1 : IntKind.i64.wrap ((W : Int) * (H : Int)) = ((W * H : Nat) : Int) := by rw [← Int.natCast_mul]; exact IntWalk.i64_in _ (by omega)
  have q1 : wrap64 ((W : Int) * (H : Int)) = ((W * H : Nat) : Int) := by rw [← Int.natCast_mul]; exact w64 (by omega) (by omega)
  generalize W * H = n at *
  have mk := makeC n (by omega)
  generalize List.replicate n (0 : Int) = L at mk ⊢
  have R := (At.new w #[.int .i64 0, .int .i64 0, .slice none 0 0] 34).alloc (.cells (cC L) 39)
  have C := At.newAt (w := w.alloc (.cells #[.int .i64 0, .int .i64 0, .slice none 0 0] 34)) (n := w.heap.size + 1) (by simp) (cC L) 39
  go_enter Try.func31, Try.ntmps31
  go_wp2
  go_returns
  exact ⟨_, rfl, At.newAt (by simp) _ _, by omega, ((Gr.refl w).alloc _).alloc _⟩

/-- A row y, a place x. -/
theorem div_of {k W H : Nat} (hW : 1 ≤ W) (h : k < W * H) : k % W < W ∧ k / W < H ∧ k / W * W + k % W = k := by
  refine ⟨Nat.mod_lt _ hW, ?_, ?_⟩
  · rw [Nat.div_lt_iff_lt_mul (by omega)]; rw [Nat.mul_comm]; exact h
  · rw [Nat.mul_comm]; exact Nat.div_add_mod k W

set_option maxHeartbeats 1000000 in
theorem refAt1 {W H b c : Nat} {L : List Int} (w : World) (hR : RowN .u32 w b 0 L) (hl : L.length = W * H) (w2 : W ≤ 256) (h2 : H ≤ 256) (i j : Nat) (hi : i < W) (hj : j < H) (x : Int) (hx : L[j * W + i]? = some x) :
    Calls Try.prog 56 #[.agg #[.int .i64 W, .int .i64 H, .slice (some ⟨b, 0, none⟩) L.length c], .int .i64 i, .int .i64 j] w (Rt w (.tuple #[.int .u32 x, .bool true])) := by
  have hk := row_of hi hj
  have hle := area_le w2 h2
  rw [← hl] at hk hle
  have q1 : wrap64 ((j : Int) * (W : Int)) = ((j * W : Nat) : Int) := by rw [← Int.natCast_mul]; exact w64 (by omega) (by omega)
  have q2 : wrap64 (((j * W : Nat) : Int) + (i : Int)) = ((j * W + i : Nat) : Int) := by rw [← Int.natCast_add]; exact w64 (by omega) (by omega)
  have hc : w.cell? ⟨b, j * W + i, none⟩ = some (.int .u32 x) := by have := hR _ _ hx; rwa [Nat.zero_add] at this
  have hb := World.block_lt_of_cell? w _ hc
  have hc2 : ∀ o : Obj, (w.alloc o).cell? ⟨b, j * W + i, none⟩ = some (.int .u32 x) := fun o => (((Gr.refl w).alloc o).cell hb).trans hc
  clear hx hR hb hc
  generalize j * W + i = k at *
  generalize j * W = p at *
  generalize L.length = n at *
  clear hl
  go_enter Try.func56, Try.ntmps56
  go_wp2
  go_ret2
  exact ⟨rfl, (Gr.refl w).alloc _⟩

set_option maxHeartbeats 1000000 in
theorem refAt0 {W H c n : Nat} {A : Option Addr} (w : World) (x y : Int) (h : hasB 0 0 W H x y = false) :
    Calls Try.prog 56 #[.agg #[.int .i64 W, .int .i64 H, .slice A n c], .int .i64 x, .int .i64 y] w (Rt w (.tuple #[.int .u32 0, .bool false])) := by
  have h' : x < 0 ∨ (0 ≤ x ∧ y < 0) ∨ (0 ≤ x ∧ 0 ≤ y ∧ W ≤ x) ∨ (0 ≤ x ∧ 0 ≤ y ∧ x < W ∧ H ≤ y) := by
    simp [hasB] at h; omega
  clear h
  rcases h' with h | ⟨h, k⟩ | ⟨h, k, l⟩ | ⟨h, k, l, o⟩
  all_goals
    go_enter Try.func56, Try.ntmps56
    go_wp2
    go_ret2
    exact ⟨rfl, (Gr.refl w).alloc _⟩

set_option maxHeartbeats 1000000 in
theorem refBox1 {W H c n : Nat} {A : Option Addr} (w : World) :
    Calls Try.prog 28 #[.agg #[.int .i64 W, .int .i64 H, .slice A n c]] w (Rt w (.agg #[.int .i64 0, .int .i64 0, .int .i64 W, .int .i64 H])) := by
  go_enter Try.func28, Try.ntmps28
  go_wp2
  go_returns
  exact Rt.rect (r := ⟨0, 0, W, H⟩) ⟨rfl, rfl, rfl, rfl⟩ (((Gr.refl w).alloc _).alloc _)

end Go.Proofs.Ytafceieenhogpaa
namespace Go.Proofs.Ytafceieenhogpaa
open Go.RowKit Go.Sort Go.Deep

theorem mod_int (k W : Nat) : ((k : Int).tmod (W : Int)) = ((k % W : Nat) : Int) := by rw [Int.tmod_eq_emod_of_nonneg (by omega)]; simp
theorem div_int (k W : Nat) : ((k : Int).tdiv (W : Int)) = ((k / W : Nat) : Int) := by rw [Int.tdiv_eq_ediv_of_nonneg (by omega)]; simp

theorem rem_quo (k W : Nat) (hW : 1 ≤ W) (hk : k ≤ 1000000000) : ∃ i j : Nat, i = k % W ∧ j = k / W ∧ ¬ W = 0 ∧ ((k : Int).tmod (W : Int)) = (i : Int) ∧ ((k : Int) % (W : Int)) = (i : Int) ∧ ((k : Int) / (W : Int)) = (j : Int) ∧ IntKind.i64.wrap (i : Int) = (i : Int) ∧ IntKind.i64.wrap (j : Int) = (j : Int) ∧ wrap64 (i : Int) = (i : Int) ∧ wrap64 (j : Int) = (j : Int) := by
  have h2 : k % W ≤ k := Nat.mod_le _ _
  have h3 : k / W ≤ k := Nat.div_le_self _ _
  have bare : ∀ m : Nat, m ≤ k → IntKind.i64.wrap (m : Int) = (m : Int) ∧ wrap64 (m : Int) = (m : Int) := fun m h => ⟨IntWalk.i64_in _ (by omega), w64 (by omega) (by omega)⟩
  exact ⟨_, _, rfl, rfl, by omega, mod_int k W, by simp, by simp, (bare _ h2).1, (bare _ h3).1, (bare _ h2).2, (bare _ h3).2⟩
theorem take_set_z {L : List Int} {n k : Nat} {x : Int} (hn : k < n) (hx : L[k]? = some x) : (L.take k ++ List.replicate (n - k) 0).set k x = L.take (k + 1) ++ List.replicate (n - (k + 1)) 0 := by
  obtain ⟨_, hk⟩ := get_of hx
  have h1 : (L.take k).length = k := by rw [List.length_take]; omega
  have h2 : L.take (k + 1) = L.take k ++ [x] := by rw [List.take_add_one, hx]; rfl
  rw [show n - k = (n - (k + 1)) + 1 by omega, List.replicate_succ, List.set_append_right _ _ (by omega), h1, h2]
  simp

set_option maxRecDepth 100000 in
set_option maxHeartbeats 2000000 in
theorem build1 {W H b c : Nat} {L : List Int} (w : World) (hR : RowN .u32 w b 0 L) (hl : L.length = W * H) (w1 : 1 ≤ W) (w2 : W ≤ 256) (h1 : 1 ≤ H) (h2 : H ≤ 256) (hM : MayL L) :
    Calls Try.prog 16 #[.agg #[.int .i64 W, .int .i64 H, .slice (some ⟨b, 0, none⟩) L.length c]] w
      (fun e w' => ∃ pm pc, e = .returned (.pointer (some ⟨pm, 0, none⟩)) ∧ Img w' pm pc W H L ∧ w.heap.size ≤ pm ∧ w.heap.size ≤ pc ∧ Bl w w') := by
  have hb0 : 0 < L.length := by rw [hl]; exact Nat.mul_pos w1 h1
  have hle := area_le w2 h2
  have B0 := At.new w #[.int .i64 W, .int .i64 H, .slice (some ⟨b, 0, none⟩) L.length c] 34
  have cn := new1 W H (w.alloc (.cells #[.int .i64 W, .int .i64 H, .slice (some ⟨b, 0, none⟩) L.length c] 34)) w1 w2 h1 h2
  have hR1 := hR.gr ((Gr.refl w).alloc (.cells #[.int .i64 W, .int .i64 H, .slice (some ⟨b, 0, none⟩) L.length c] 34))
  have G0 := ((Gr.refl w).alloc (.cells #[.int .i64 W, .int .i64 H, .slice (some ⟨b, 0, none⟩) L.length c] 34)).bl
  have hbl : b < w.heap.size := World.block_lt_of_cell? w _ (hR 0 L[0] (List.getElem?_eq_getElem hb0))
  rw [← hl] at hle cn
  obtain ⟨n, hn⟩ : ∃ n, n = L.length := ⟨_, rfl⟩
  rw [← hn] at hle cn B0 hR1 G0 ⊢
  have hnn := Lib.hid hn
  have hll := Lib.hid hl
  clear hn hl hR hb0
  go_enter Try.func16, Try.ntmps16
  go_wp2_with fail
  refine cn.mono ?_
  rintro e v1 ⟨pm, pc, rfl, I1, m1, m2, g1⟩
  replace B0 := B0.gr g1
  replace hR1 := hR1.gr g1
  replace G0 := G0.gr g1
  simp at m1 m2
  have hz : L.take 0 ++ List.replicate (n - 0) 0 = List.replicate n 0 := by simp
  rw [← hz] at I1
  clear hz cn g1
  go_wp2_with fail
  go_loopw [5] (fun i wr => ∃ k : Nat, k ≤ n ∧ i = .int .i64 k ∧ Img wr pm pc W H (L.take k ++ List.replicate (n - k) 0) ∧ At wr w.heap.size #[.int .i64 W, .int .i64 H, .slice (some ⟨b, 0, none⟩) n c] 34 ∧ RowN .u32 wr b 0 L ∧ Bl w wr)
    (fun i _ => n - (intOf i).toNat)
  case atStart => exact ⟨0, Nat.zero_le _, rfl, I1, B0, hR1, G0⟩
  case round =>
    obtain ⟨k, hk, rfl, Ik, Bk, Rk, Gk⟩ := hrel
    have b0 : wr.cell? ⟨w.heap.size, 0, none⟩ = some (.int .i64 W) := Bk.cell 0
    have b1 : wr.cell? ⟨w.heap.size, 2, none⟩ = some (.slice (some ⟨b, 0, none⟩) n c) := Bk.cell 2
    by_cases hlt : k < n
    · obtain ⟨d1, d2, d3⟩ := div_of (k := k) (H := H) w1 (by rw [← hll.out, ← hnn.out]; exact hlt)
      obtain ⟨i, j, hi, hj, x1, x2, x3, x4, x5, x6, x7, x8⟩ := rem_quo k W w1 (by omega)
      rw [← hi, ← hj] at d3
      rw [← hi] at d1
      rw [← hj] at d2
      clear hi hj
      obtain ⟨x, hx⟩ : ∃ x, L[k]? = some x := ⟨L[k]'(by rw [← hnn.out]; exact hlt), List.getElem?_eq_getElem _⟩
      have c1 : wr.cell? ⟨b, k, none⟩ = some (.int .u32 x) := by have := Rk _ _ hx; rwa [Nat.zero_add] at this
      obtain ⟨hx1, hx2⟩ := hM x (get_of hx).1
      have cs := fun (w' : World) (h : Img w' pm pc W H (L.take k ++ List.replicate (n - k) 0)) => set1 w' h i j d1 d2 x hx1 hx2
      rw [d3, take_set_z hlt hx] at cs
      clear d3 hx
      go_wp2
      go_still_tail 14, (by kernel_rfl)
      change wpList _ _ _ _ _ wr.drew
      go_wp2_with fail
      refine (cs _ (Ik.gr (Gr.refl wr).drew)).mono ?_
      rintro e v2 ⟨rfl, g2, I2⟩
      have g3 := by_trans ((Gr.refl wr).drew.by (some pc)) g2
      have p1 := Bk.lt
      have p2 := Gk.size
      go_wp2
      go_roundw
      case rel => exact ⟨k + 1, by omega, by simp, I2, Bk.kept g3 (by simp; omega), Rk.kept g3 (by simp; omega), Gk.row g3 (by omega)⟩
      case measure => simp [intOf]; omega
    · obtain rfl : k = n := by omega
      go_wp2
      go_ret
      refine ⟨pm, pc, rfl, ?_, by omega, by omega, Gk⟩
      have e : L.take k ++ List.replicate (k - k) 0 = L := by simp [hnn.out]
      rwa [e] at Ik

end Go.Proofs.Ytafceieenhogpaa
namespace Go.Proofs.Ytafceieenhogpaa
open Go.RowKit Go.Sort Go.Deep

theorem ImgX.cellsG {w : World} {pm pc W H : Nat} {L : List Int} {X : List Value} (h : ImgX w pm pc W H L X) (n : Nat) (os : Array Obj) : ImgX (Go.Sort.grow (w.drewN n) os) pm pc W H L X := h.gr (((Gr.refl w).drewN n).grow os)
theorem Img.cellsG {w : World} {pm pc W H : Nat} {L : List Int} (h : Img w pm pc W H L) (n : Nat) (os : Array Obj) : Img (Go.Sort.grow (w.drewN n) os) pm pc W H L := h.gr (((Gr.refl w).drewN n).grow os)

set_option maxRecDepth 100000 in
set_option maxHeartbeats 2000000 in
theorem likeX {pm pc W H b c : Nat} {L : List Int} {X : List Value} (w : World) (hI : ImgX w pm pc W H L X) (hR : RowN .u32 w b 0 L) :
    Calls Try.prog 25 #[.pointer (some ⟨pm, 0, none⟩), .agg #[.int .i64 W, .int .i64 H, .slice (some ⟨b, 0, none⟩) L.length c]] w (Rt w (.bool true)) := by
  have w1 := hI.w1
  have hle := area_le hI.w2 hI.h2
  rw [← hI.len] at hle
  obtain ⟨n, hn⟩ : ∃ n, n = L.length := ⟨_, rfl⟩
  have hll : n = W * H := hn.trans hI.len
  rw [← hn] at hle ⊢
  have hnn := Lib.hid hn
  have hLL := Lib.hid hll
  clear hn hll
  have B0 := At.new w #[.int .i64 W, .int .i64 H, .slice (some ⟨b, 0, none⟩) n c] 34
  have G0 := (Gr.refl w).alloc (.cells #[.int .i64 W, .int .i64 H, .slice (some ⟨b, 0, none⟩) n c] 34)
  have hI0 := hI.gr G0
  have hR0 := hR.gr G0
  clear hI hR
  go_enter Try.func25, Try.ntmps25
  go_wp2
  obtain ⟨V, hV⟩ : ∃ V, V = w.alloc (.cells #[.int .i64 W, .int .i64 H, .slice (some ⟨b, 0, none⟩) n c] 34) := ⟨_, rfl⟩
  rw [← hV] at B0 G0 hI0 hR0 ⊢
  clear hV
  generalize w.heap.size = bm at B0 ⊢
  have m0 := fun q os => B0.cells q os 0; have m1 := fun q os => B0.cells q os 1; have m2 := fun q os => B0.cells q os 2
  simp at m0 m1 m2
  have cb := fun q os => boxX _ (hI0.cellsG q os)
  refine wp_region_quiet_grown (by kernel_rfl) (by kernel_rfl) ?_
  repeat (first | go_big_quiet_step (first | (go_at_call 60; exact Calls.grown (cb _ _)) | (go_at_call 28; exact Calls.grown (refBox1 _))) | quiet_step (first | (go_at_call 60; exact Calls.grown (cb _ _)) | (go_at_call 28; exact Calls.grown (refBox1 _))))
  refine wpQuiet_nil ?_
  intro W2 g8
  replace g8 : Gr _ W2 := g8
  replace B0 := B0.gr g8
  replace hI0 := hI0.gr g8
  replace hR0 := hR0.gr g8
  replace G0 := G0.trans g8
  clear m0 m1 m2 cb g8
  go_wp2
  go_loopw [5] (fun i wr => ∃ k : Nat, k ≤ n ∧ i = .int .i64 k ∧ Gr W2 wr) (fun i _ => n - (intOf i).toNat)
  case atStart => exact ⟨0, Nat.zero_le _, rfl, Gr.refl _⟩
  case round =>
    obtain ⟨k, hk, rfl, Gk⟩ := hrel
    have Bk := B0.gr Gk
    have b2 : wr.cell? ⟨bm, 2, none⟩ = some (.slice (some ⟨b, 0, none⟩) n c) := Bk.cell 2
    by_cases hlt : k < n
    · obtain ⟨d1, d2, d3⟩ := div_of (k := k) (H := H) w1 (by rw [← hLL.out]; exact hlt)
      obtain ⟨i, j, hi, hj, x1, x2, x3, x4, x5, x6, x7, x8⟩ := rem_quo k W w1 (by omega)
      rw [← hi, ← hj] at d3
      rw [← hi] at d1
      rw [← hj] at d2
      clear hi hj
      obtain ⟨x, hx⟩ : ∃ x, L[k]? = some x := ⟨L[k]'(by rw [← hnn.out]; exact hlt), List.getElem?_eq_getElem _⟩
      have Ik := hI0.gr Gk
      have ca := fun q os => at1X _ (Ik.cellsG q os) i j d1 d2 x (by rw [d3]; exact hx)
      have c1 : ∀ wr', Gr wr wr' → wr'.cell? ⟨b, k, none⟩ = some (.int .u32 x) := fun wr' g => by have := (hR0.gr (Gk.trans g)) _ _ hx; rwa [Nat.zero_add] at this
      have m0 := fun q os => Bk.cells q os 0; have m1 := fun q os => Bk.cells q os 1; have m2 := fun q os => Bk.cells q os 2
      simp at m0 m1 m2
      clear hx d3
      go_wp2
      refine wp_region_quiet_grown (by kernel_rfl) (by kernel_rfl) ?_
      repeat (first | go_big_quiet_step ((go_at_call 73; exact Calls.grown (ca _ _))) | quiet_step ((go_at_call 73; exact Calls.grown (ca _ _))))
      refine wpQuiet_nil ?_
      intro W3 g9
      replace g9 : Gr _ W3 := g9
      have e1 := c1 _ g9
      have e2 : W3.cell? ⟨bm, 2, none⟩ = some (.slice (some ⟨b, 0, none⟩) n c) := (Bk.gr g9).cell 2
      clear m0 m1 m2 c1 b2
      go_wp2
      go_roundw
      case rel => exact ⟨k + 1, by omega, by simp, Gk.trans g9⟩
      case measure => simp [intOf]; omega
    · obtain rfl : k = n := by omega
      go_wp2
      go_ret
      exact ⟨rfl, G0.trans Gk⟩
theorem like1 {pm pc W H b c : Nat} {L : List Int} (w : World) (hI : Img w pm pc W H L) (hR : RowN .u32 w b 0 L) :
    Calls Try.prog 25 #[.pointer (some ⟨pm, 0, none⟩), .agg #[.int .i64 W, .int .i64 H, .slice (some ⟨b, 0, none⟩) L.length c]] w (Rt w (.bool true)) := likeX w hI.x hR

end Go.Proofs.Ytafceieenhogpaa
namespace Go.Proofs.Ytafceieenhogpaa
open Go.RowKit Go.Sort Go.Deep

/-- A row of numbers that a call owns. -/
def OwN (k : IntKind) (e : TypeId) (w : World) (B : Nat) (A : Option Addr) (c : Nat) (L : List Int) : Prop := w.ownsRow B e 1 (.slice A L.length c) L.length (L.map (Value.int k))
theorem OwN.nil (k : IntKind) (e : TypeId) (w : World) (B : Nat) : OwN k e w B none 0 [] := World.ownsRow_nil _ _ _ _
theorem OwN.addr {k : IntKind} {e : TypeId} {w : World} {B : Nat} {A : Option Addr} {c : Nat} {L : List Int} (h : OwN k e w B A c L) : (A = none ∧ c = 0 ∧ L = []) ∨ ∃ g, A = some ⟨g, 0, none⟩ ∧ B ≤ g ∧ g < w.heap.size := by
  rcases h.2 with ⟨h1, h2⟩ | ⟨g, cap, cur, h1, h2, h3, _⟩
  · left
    injection h1 with a b c'
    exact ⟨a, c', List.eq_nil_of_length_eq_zero h2⟩
  · right
    injection h1 with a b c'
    refine ⟨g, a, h2, ?_⟩
    rcases Nat.lt_or_ge g w.heap.size with hl | hl
    · exact hl
    · rw [Array.getElem?_eq_none hl] at h3; cases h3
theorem OwN.row {k : IntKind} {e : TypeId} {w : World} {B g c : Nat} {L : List Int} (h : OwN k e w B (some ⟨g, 0, none⟩) c L) : RowN k w g 0 L := fun i x hi => by
  obtain ⟨_, hl⟩ : x ∈ L ∧ i < L.length := by
    have hl : i < L.length := by
      rcases Nat.lt_or_ge i L.length with h' | h'
      · exact h'
      · rw [List.getElem?_eq_none h'] at hi; cases hi
    exact ⟨by rw [List.getElem?_eq_getElem hl] at hi; cases hi; exact List.getElem_mem hl, hl⟩
  have q := World.ownsRow.cellAt h i (by omega)
  rw [Nat.zero_add, q]
  simp [hi]
theorem OwN.grown {k : IntKind} {e : TypeId} {w w' : World} {B : Nat} {A : Option Addr} {c : Nat} {L : List Int} {row : Option Nat} (h : OwN k e w B A c L) (g : w.grownBy w' row) (hne : A = none ∨ A.map (·.block) ≠ row) : OwN k e w' B A c L :=
  World.ownsRow.kept h g (by rw [slice_block]; rcases hne with rfl | hne; exact .inl rfl; exact .inr hne)
theorem OwN.bl {k : IntKind} {e : TypeId} {w w' : World} {B : Nat} {A : Option Addr} {c : Nat} {L : List Int} (h : OwN k e w B A c L) (g : Bl w w') : OwN k e w' B A c L :=
  h.grown (g.byr none) (by cases A with | none => exact .inl rfl | some a => exact .inr (by simp))
theorem OwN.gr {k : IntKind} {e : TypeId} {w w' : World} {B : Nat} {A : Option Addr} {c : Nat} {L : List Int} (h : OwN k e w B A c L) (g : Gr w w') : OwN k e w' B A c L := h.bl g.bl
theorem OwN.lies {k : IntKind} {e : TypeId} {w : World} {B : Nat} {A : Option Addr} {c : Nat} {L : List Int} (h : OwN k e w B A c L) : A = none ∨ ∃ g, A = some ⟨g, 0, none⟩ ∧ B ≤ g ∧ g < w.heap.size := by
  rcases h.addr with ⟨h1, _⟩ | h1
  · exact .inl h1
  · exact .inr h1
/-- What append leaves: the row, where it lies, and what else has turned. -/
def ApdN (w w' : World) (A : Option Addr) : Prop := w.grownBy w' (A.map (·.block))
theorem ApdN.bl {k : IntKind} {e : TypeId} {w0 w w' : World} {A : Option Addr} {B c : Nat} {L : List Int} (g : ApdN w w' A) (h : Bl w0 w) (hA : OwN k e w B A c L) (hB : w0.heap.size ≤ B) : Bl w0 w' :=
  h.grown g (fun j hj => by
    rcases hA.lies with rfl | ⟨k', rfl, h1, _⟩
    · cases hj
    · simp at hj; omega)
/-- A block that lies below the row's base lies as it lay. -/
theorem ApdN.at {k : IntKind} {e : TypeId} {w w' : World} {A : Option Addr} {B c : Nat} {L : List Int} (g : ApdN w w' A) (hA : OwN k e w B A c L) {b : Nat} {cs : Array Value} {t : TypeId} (h : At w b cs t) (hb : b < B) : At w' b cs t :=
  h.kept g (by
    rcases hA.lies with rfl | ⟨k', rfl, h1, _⟩
    · simp
    · simp; omega)
theorem one_int (k : IntKind) (L : List Int) : ∀ u ∈ L.map (Value.int k), u.oneCell' = true := by
  intro u h; simp at h; obtain ⟨x, _, rfl⟩ := h; rfl
theorem rowN_add {k : IntKind} {w : World} {b off : Nat} {L : List Int} (h : RowN k w b off L) : ∀ (j : Nat) (u : Value), (L.map (Value.int k))[j]? = some u → w.cell? (Addr.add ⟨b, off, none⟩ j) = some u := by
  intro j u hj
  rw [List.getElem?_map] at hj
  cases hx : L[j]? with
  | none => rw [hx] at hj; cases hj
  | some x =>
    rw [hx] at hj; cases hj
    have hadd : (⟨b, off, none⟩ : Addr).add j = ⟨b, off + j, none⟩ := by unfold Addr.add; split <;> simp_all
    rw [hadd]; exact h j x hx

theorem infoBy : (Try.prog.info? 5).map (fun i => (i.zero, i.size, i.bytes)) = some (some (.int .u8 0), 1, 1) := by kernel_rfl

theorem wp_app_n {k : IntKind} {t e : TypeId} {z : Value} {bs : Nat} (ht : Try.prog.underlying t = some (.slice e)) (hinfo : (Try.prog.info? e).map (fun i => (i.zero, i.size, i.bytes)) = some (some z, 1, bs)) (hz : z.cells.size = 1) (hbs : bs ≤ 8)
    {ops : Array Oper} {rest : List Oper} {o : Oper} {a : Act} {w : World} {Q : Exit → Act → World → Prop} (hgd : o.guard = none) (s x : Operand)
    (ho : o.op = .call { callee := .builtin .append, args := #[s, x], argTypes := #[t, t] }) (A : Option Addr) (c : Nat) (L : List Int) (hs : a.eval s = .slice A L.length c) (B : Nat) (hown : OwN k e w B A c L)
    (g0 off : Nat) (M : List Int) (c0 : Nat) (hx : a.eval x = .slice (some ⟨g0, off, none⟩) M.length c0) (hM : RowN k w g0 off M) (hm : 0 < M.length) (hlen : L.length + M.length ≤ 1000000000000) (hB : B ≤ w.heap.size)
    (h : ∀ A' c' w', OwN k e w' B A' c' (L ++ M) → ApdN w w' A → (∃ g, A' = some ⟨g, 0, none⟩) → wpList Try.prog ops Q rest (a.put o.dst (.slice A' (L.length + M.length) c')) w') :
    wpList Try.prog ops Q (o :: rest) a w := by
  obtain ⟨i0, hi, hz0, hz1, hz2⟩ := info_parts hinfo
  have hbb : (L.length + M.length) * bs ≤ (L.length + M.length) * 8 := Nat.mul_le_mul_left _ hbs
  refine wpList_append_lies (P := Try.prog) w hgd s x t ho B e i0 z 1 bs ht hi hz0 hz1 hz2 hz (by decide) (.slice A L.length c) L.length (L.map (Value.int k)) hs hown
    ⟨g0, off, none⟩ M.length c0 (M.map (Value.int k)) hx (by simp) (rowN_add hM) (one_int _ _) hm (by unfold maxLen; omega) (by omega) hB w.heap.size rfl ?_
  intro g cap w' h1 h2 h3 h4
  refine h (some ⟨g, 0, none⟩) cap w' ?_ ?_ ⟨g, rfl⟩
  · unfold OwN; rw [List.map_append, List.length_append]; exact h1
  · rw [slice_block] at h2; exact h2
theorem row_one {k : IntKind} {w : World} {g : Nat} {x : Int} {t : TypeId} (h : At w g #[.int k x] t) : RowN k w g 0 [x] := fun i y hi => by
  cases i with
  | zero => simp at hi; subst hi; exact h.cell 0
  | succ i => simp at hi

end Go.Proofs.Ytafceieenhogpaa
