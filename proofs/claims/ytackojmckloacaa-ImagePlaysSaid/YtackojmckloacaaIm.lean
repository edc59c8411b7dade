/-
  What is proved: small words for an image in memory, and what New, Box, At, Set of package image hand back.
-/
import Derived.Test.YtackojmckloacaaIb
import Derived.Test.YtackojmckloacaaIc
import Derived.Test.YtackojmckloacaaW
import Derived.Lib.Hide
import Derived.RegionTactic
import Derived.Laws.AppendOwn
import Derived.Laws.OwnMore
import Derived.Laws.MakeOwn
import Derived.RowKit
namespace Go.Proofs.Ytackojmckloacaa
open Go.RowKit Go.Sort

/-- The cells of a list of colors. -/
def cC (L : List Int) : Array Value := (L.map (Value.int .u32)).toArray
theorem cC_get (L : List Int) (k : Nat) : (cC L)[k]? = L[k]?.map (Value.int .u32) := by simp [cC]
theorem cC_set (L : List Int) (k : Nat) (c : Int) : (cC L).setIfInBounds k (.int .u32 c) = cC (L.set k c) := by
  apply Array.ext_getElem?
  intro i
  rw [cC_get, Array.getElem?_setIfInBounds, List.getElem?_set, cC_get]
  have hs : (cC L).size = L.length := by simp [cC]
  rw [hs]
  split
  · split <;> simp_all
  · rfl

/-- Block pm is an image of W by H whose colors lie in block pc. -/
structure Img (w : World) (pm pc W H : Nat) (L : List Int) : Prop where
  hd : At w pm #[.int .i64 W, .int .i64 H, .slice (some ⟨pc, 0, none⟩) L.length L.length] 62
  cs : At w pc (cC L) 30
  len : L.length = W * H
  w1 : 1 ≤ W
  w2 : W ≤ 256
  h1 : 1 ≤ H
  h2 : H ≤ 256
  ne : pm ≠ pc
theorem Img.c0 {w : World} {pm pc W H : Nat} {L : List Int} (h : Img w pm pc W H L) : w.cell? ⟨pm, 0, none⟩ = some (.int .i64 W) := h.hd.cell 0
theorem Img.c1 {w : World} {pm pc W H : Nat} {L : List Int} (h : Img w pm pc W H L) : w.cell? ⟨pm, 1, none⟩ = some (.int .i64 H) := h.hd.cell 1
theorem Img.c2 {w : World} {pm pc W H : Nat} {L : List Int} (h : Img w pm pc W H L) : w.cell? ⟨pm, 2, none⟩ = some (.slice (some ⟨pc, 0, none⟩) L.length L.length) := h.hd.cell 2
/-- The same, where the colors' block goes on behind them (what a clone's does). -/
structure ImgX (w : World) (pm pc W H : Nat) (L : List Int) (X : List Value) : Prop where
  hd : At w pm #[.int .i64 W, .int .i64 H, .slice (some ⟨pc, 0, none⟩) L.length (L.length + X.length)] 62
  cs : At w pc (L.map (Value.int .u32) ++ X).toArray 30
  len : L.length = W * H
  w1 : 1 ≤ W
  w2 : W ≤ 256
  h1 : 1 ≤ H
  h2 : H ≤ 256
  ne : pm ≠ pc
theorem Img.x {w : World} {pm pc W H : Nat} {L : List Int} (h : Img w pm pc W H L) : ImgX w pm pc W H L [] :=
  { hd := h.hd, cs := by rw [List.append_nil]; exact h.cs, len := h.len, w1 := h.w1, w2 := h.w2, h1 := h.h1, h2 := h.h2, ne := h.ne }
theorem ImgX.o {w : World} {pm pc W H : Nat} {L : List Int} (h : ImgX w pm pc W H L []) : Img w pm pc W H L :=
  { hd := h.hd, cs := by have := h.cs; rwa [List.append_nil] at this, len := h.len, w1 := h.w1, w2 := h.w2, h1 := h.h1, h2 := h.h2, ne := h.ne }
theorem ImgX.c0 {w : World} {pm pc W H : Nat} {L : List Int} {X : List Value} (h : ImgX w pm pc W H L X) : w.cell? ⟨pm, 0, none⟩ = some (.int .i64 W) := h.hd.cell 0
theorem ImgX.c1 {w : World} {pm pc W H : Nat} {L : List Int} {X : List Value} (h : ImgX w pm pc W H L X) : w.cell? ⟨pm, 1, none⟩ = some (.int .i64 H) := h.hd.cell 1
theorem ImgX.c2 {w : World} {pm pc W H : Nat} {L : List Int} {X : List Value} (h : ImgX w pm pc W H L X) : w.cell? ⟨pm, 2, none⟩ = some (.slice (some ⟨pc, 0, none⟩) L.length (L.length + X.length)) := h.hd.cell 2
theorem ImgX.at {w : World} {pm pc W H : Nat} {L : List Int} {X : List Value} (h : ImgX w pm pc W H L X) {k : Nat} {c : Int} (hk : L[k]? = some c) : w.cell? ⟨pc, k, none⟩ = some (.int .u32 c) := by
  have hl : k < L.length := (List.getElem?_eq_some_iff.1 hk).1
  rw [h.cs.cell k, List.getElem?_toArray, List.getElem?_append_left (by simpa using hl), List.getElem?_map, hk]; rfl
theorem ImgX.gr {w w' : World} {pm pc W H : Nat} {L : List Int} {X : List Value} (h : ImgX w pm pc W H L X) (g : Gr w w') : ImgX w' pm pc W H L X := { h with hd := h.hd.gr g, cs := h.cs.gr g }
theorem ImgX.bl {w w' : World} {pm pc W H : Nat} {L : List Int} {X : List Value} (h : ImgX w pm pc W H L X) (g : Bl w w') : ImgX w' pm pc W H L X := { h with hd := h.hd.bl g, cs := h.cs.bl g }
theorem Img.at {w : World} {pm pc W H : Nat} {L : List Int} (h : Img w pm pc W H L) {k : Nat} {c : Int} (hk : L[k]? = some c) : w.cell? ⟨pc, k, none⟩ = some (.int .u32 c) := by
  rw [h.cs.cell k, cC_get, hk]; rfl
theorem Img.gr {w w' : World} {pm pc W H : Nat} {L : List Int} (h : Img w pm pc W H L) (g : Gr w w') : Img w' pm pc W H L := { h with hd := h.hd.gr g, cs := h.cs.gr g }
theorem At.kept {w w' : World} {b : Nat} {cs : Array Value} {t : TypeId} {row : Option Nat} (h : At w b cs t) (g : w.grownBy w' row) (hne : some b ≠ row) : At w' b cs t := by
  have := g.block b h.lt hne
  unfold At at *; rw [this]; exact h
theorem Img.kept {w w' : World} {pm pc W H : Nat} {L : List Int} {row : Option Nat} (h : Img w pm pc W H L) (g : w.grownBy w' row) (h1 : some pm ≠ row) (h2 : some pc ≠ row) : Img w' pm pc W H L := { h with hd := h.hd.kept g h1, cs := h.cs.kept g h2 }
theorem Gr.by {w w' : World} (h : Gr w w') (row : Option Nat) : w.grownBy w' row := ⟨h.below.os, h.below.tape, h.below.output, h.size, fun k hk _ => h.below.block k hk⟩
theorem by_trans {a b c : World} {row : Option Nat} (h : a.grownBy b row) (k : b.grownBy c row) : a.grownBy c row :=
  ⟨k.os.trans h.os, k.tape.trans h.tape, k.output.trans h.output, Nat.le_trans h.size k.size, fun i hi hr => (k.block i (Nat.lt_of_lt_of_le hi h.size) hr).trans (h.block i hi hr)⟩
theorem row_of {i j W H : Nat} (hi : i < W) (hj : j < H) : j * W + i < W * H := by
  have := Nat.mul_le_mul_right W (show j + 1 ≤ H from hj)
  rw [Nat.add_mul, Nat.mul_comm H] at this; omega
theorem area_le {W H : Nat} (h : W ≤ 256) (k : H ≤ 256) : W * H ≤ 65536 := by
  have := Nat.mul_le_mul h k; omega

set_option maxHeartbeats 1000000 in
theorem boxX {pm pc W H : Nat} {L : List Int} {X : List Value} (w : World) (hI : ImgX w pm pc W H L X) :
    Calls Try.prog 24 #[.pointer (some ⟨pm, 0, none⟩)] w (Rt w (.agg #[.int .i64 0, .int .i64 0, .int .i64 W, .int .i64 H])) := by
  have g := (Gr.refl w).alloc (.cells #[.int .i64 0, .int .i64 0, .int .i64 0, .int .i64 0] 32)
  have k0 := (hI.gr g).c0
  have k1 := (hI.gr g).c1
  clear hI
  go_enter Try.func24, Try.ntmps24
  go_wp2
  have hk := At.new w #[.int .i64 0, .int .i64 0, .int .i64 0, .int .i64 0] 32
  obtain ⟨V, hV⟩ : ∃ V, V = w.alloc (.cells #[.int .i64 0, .int .i64 0, .int .i64 0, .int .i64 0] 32) := ⟨_, rfl⟩
  rw [← hV] at hk k0 k1 g ⊢
  clear hV
  obtain ⟨b, hb'⟩ : ∃ b, b = w.heap.size := ⟨_, rfl⟩
  have hb : w.heap.size ≤ b := by omega
  rw [← hb'] at hk ⊢
  clear hb'
  have c0 := hk.cell 0; have c1 := hk.cell 1; have c2 := hk.cell 2; have c3 := hk.cell 3
  have f0 := hk.free 0; have f1 := hk.free 1; have f2 := hk.free 2; have f3 := hk.free 3
  simp at c0 c1 c2 c3
  go_region
  all_goals
    go_wp2
    have k := hk.put4 (.int .i64 0) (.int .i64 0) (.int .i64 W) (.int .i64 H)
    have G : Gr w ((((V.setCell ⟨b, 0, none⟩ (.int .i64 0)).setCell ⟨b, 1, none⟩ (.int .i64 0)).setCell ⟨b, 2, none⟩ (.int .i64 W)).setCell ⟨b, 3, none⟩ (.int .i64 H)) := (((g.setCell (p := ⟨b, 0, none⟩) hb _).setCell (p := ⟨b, 1, none⟩) hb _).setCell (p := ⟨b, 2, none⟩) hb _).setCell (p := ⟨b, 3, none⟩) hb _
    generalize (((V.setCell ⟨b, 0, none⟩ (.int .i64 0)).setCell ⟨b, 1, none⟩ (.int .i64 0)).setCell ⟨b, 2, none⟩ (.int .i64 W)).setCell ⟨b, 3, none⟩ (.int .i64 H) = V4 at k G ⊢
    have d0 := k.cell 0; have d1 := k.cell 1; have d2 := k.cell 2; have d3 := k.cell 3
    simp at d0 d1 d2 d3
    exact bodyPost_ret (v := .agg #[.int .i64 0, .int .i64 0, .int .i64 W, .int .i64 H]) (by simp [results, Try.results24, go_sem, d0, d1, d2, d3]) rfl ⟨rfl, G.drew⟩
theorem box1 {pm pc W H : Nat} {L : List Int} (w : World) (hI : Img w pm pc W H L) :
    Calls Try.prog 24 #[.pointer (some ⟨pm, 0, none⟩)] w (Rt w (.agg #[.int .i64 0, .int .i64 0, .int .i64 W, .int .i64 H])) := boxX w hI.x

set_option maxHeartbeats 1000000 in
theorem at0X {pm pc W H : Nat} {L : List Int} {X : List Value} (w : World) (hI : ImgX w pm pc W H L X) (x y : Int) (h : hasB 0 0 W H x y = false) :
    Calls Try.prog 39 #[.pointer (some ⟨pm, 0, none⟩), .int .i64 x, .int .i64 y] w (Rt w (.tuple #[.int .u32 0, .bool false])) := by
  have cb := boxX w hI
  have ch := fun w => has1 0 0 W H x y w
  rw [h] at ch
  go_enter Try.func39, Try.ntmps39
  go_wp2_with fail
  refine cb.mono ?_
  rintro e w1 ⟨rfl, g1⟩
  go_wp2_with fail
  refine (ch _).mono ?_
  rintro e w2 ⟨rfl, g2⟩
  go_wp2
  go_ret2
  exact ⟨rfl, g1.trans g2⟩
theorem at0 {pm pc W H : Nat} {L : List Int} (w : World) (hI : Img w pm pc W H L) (x y : Int) (h : hasB 0 0 W H x y = false) :
    Calls Try.prog 39 #[.pointer (some ⟨pm, 0, none⟩), .int .i64 x, .int .i64 y] w (Rt w (.tuple #[.int .u32 0, .bool false])) := at0X w hI.x x y h

set_option maxHeartbeats 1000000 in
theorem at1X {pm pc W H : Nat} {L : List Int} {X : List Value} (w : World) (hI : ImgX w pm pc W H L X) (i j : Nat) (hi : i < W) (hj : j < H) (c : Int) (hc : L[j * W + i]? = some c) :
    Calls Try.prog 39 #[.pointer (some ⟨pm, 0, none⟩), .int .i64 i, .int .i64 j] w (Rt w (.tuple #[.int .u32 c, .bool true])) := by
  have cb := boxX w hI
  have ch := fun w => has1 0 0 W H i j w
  rw [show hasB 0 0 W H i j = true from by simp [hasB]; omega] at ch
  have hk := row_of hi hj
  have hle := area_le hI.w2 hI.h2
  rw [← hI.len] at hk hle
  have e1 : IntKind.i64.wrap ((j : Int) * (W : Int)) = ((j * W : Nat) : Int) := by rw [← Int.natCast_mul]; exact IntWalk.i64_in _ (by omega)
  have e2 : IntKind.i64.wrap (((j * W : Nat) : Int) + (i : Int)) = ((j * W + i : Nat) : Int) := by rw [← Int.natCast_add]; exact IntWalk.i64_in _ (by omega)
  have q1 : wrap64 ((j : Int) * (W : Int)) = ((j * W : Nat) : Int) := by rw [← Int.natCast_mul]; exact w64 (by omega) (by omega)
  have q2 : wrap64 (((j * W : Nat) : Int) + (i : Int)) = ((j * W + i : Nat) : Int) := by rw [← Int.natCast_add]; exact w64 (by omega) (by omega)
  generalize j * W + i = k at *
  generalize j * W = p at *
  generalize hn : L.length = n at *
  have hnn := Lib.hid hn
  go_enter Try.func39, Try.ntmps39
  go_wp2_with fail
  refine cb.mono ?_
  rintro e w1 ⟨rfl, g1⟩
  go_wp2_with fail
  refine (ch _).mono ?_
  rintro e w2 ⟨rfl, g2⟩
  have J := (hI.gr g1).gr g2
  have k0 := J.c0; have k2 := J.c2; have k3 := J.at hc
  rw [hnn.out] at k2
  go_wp2
  go_quiet (fail)
  go_wp2
  go_ret2
  exact ⟨rfl, (g1.trans g2).drewN _⟩
theorem at1 {pm pc W H : Nat} {L : List Int} (w : World) (hI : Img w pm pc W H L) (i j : Nat) (hi : i < W) (hj : j < H) (c : Int) (hc : L[j * W + i]? = some c) :
    Calls Try.prog 39 #[.pointer (some ⟨pm, 0, none⟩), .int .i64 i, .int .i64 j] w (Rt w (.tuple #[.int .u32 c, .bool true])) := at1X w hI.x i j hi hj c hc

theorem ImgX.set {w : World} {pm pc W H : Nat} {L : List Int} {X : List Value} (h : ImgX w pm pc W H L X) (k : Nat) (c : Int) (hk : k < L.length) : ImgX (w.setCell ⟨pc, k, none⟩ (.int .u32 c)) pm pc W H (L.set k c) X := by
  have hl : (L.set k c).length = L.length := List.length_set
  refine { h with hd := ?_, cs := ?_, len := hl.trans h.len }
  · rw [hl]; exact h.hd.far (p := ⟨pc, k, none⟩) h.ne _
  · have hm : (L.set k c).map (Value.int .u32) ++ X = (L.map (Value.int .u32) ++ X).set k (.int .u32 c) := by
      rw [List.set_append_left _ _ (by simpa using hk), List.map_set]
    rw [hm, ← List.setIfInBounds_toArray]; exact h.cs.put k _
theorem Img.set {w : World} {pm pc W H : Nat} {L : List Int} (h : Img w pm pc W H L) (k : Nat) (c : Int) : Img (w.setCell ⟨pc, k, none⟩ (.int .u32 c)) pm pc W H (L.set k c) := by
  have hl : (L.set k c).length = L.length := List.length_set
  refine { h with hd := ?_, cs := ?_, len := hl.trans h.len }
  · rw [hl]; exact h.hd.far (p := ⟨pc, k, none⟩) h.ne _
  · rw [← cC_set]; exact h.cs.put k _
theorem by_set {a b : World} {p : Addr} (h : a.grownBy b (some p.block)) (u : Value) : a.grownBy (b.setCell p u) (some p.block) :=
  by_trans h ⟨rfl, rfl, rfl, by simp [World.setCell], fun k _ hk => Below.heap_setCell _ _ _ k (fun e => hk (by rw [e]))⟩
theorem by_drew {a b : World} {row : Option Nat} (h : a.grownBy b row) : a.grownBy b.drew row := by_trans h ((Gr.refl b).drew.by row)
theorem by_drewN {a b : World} {row : Option Nat} (h : a.grownBy b row) (n : Nat) : a.grownBy (b.drewN n) row := by_trans h (((Gr.refl b).drewN n).by row)
theorem by_gr {a b c : World} {row : Option Nat} (h : a.grownBy b row) (k : Gr b c) : a.grownBy c row := by_trans h (k.by row)
theorem by_refl (a : World) (row : Option Nat) : a.grownBy a row := (Gr.refl a).by row
theorem by_alloc {a b : World} {row : Option Nat} (h : a.grownBy b row) (o : Obj) : a.grownBy (b.alloc o) row := by_gr h ((Gr.refl b).alloc o)
/-- A store into a block that was not there. -/
theorem by_new {a b : World} {row : Option Nat} (h : a.grownBy b row) {p : Addr} (hp : a.heap.size ≤ p.block) (u : Value) : a.grownBy (b.setCell p u) row :=
  ⟨h.os, h.tape, h.output, Nat.le_trans h.size (by simp [World.setCell]), fun k hk hr => (Below.heap_setCell _ _ _ k (by omega)).trans (h.block k hk hr)⟩

set_option maxHeartbeats 1000000 in
theorem setRX {pm pc W H : Nat} {L : List Int} {X : List Value} (w : World) (hI : ImgX w pm pc W H L X) (x y c : Int) (h : hasB 0 0 W H x y = false) :
    Calls Try.prog 7 #[.pointer (some ⟨pm, 0, none⟩), .int .i64 x, .int .i64 y, .int .u32 c] w (Rt w (.int .i64 4)) := by
  have cb := boxX w hI
  have ch := fun w => has1 0 0 W H x y w
  rw [h] at ch
  go_enter Try.func7, Try.ntmps7
  go_wp2_with fail
  refine cb.mono ?_
  rintro e w1 ⟨rfl, g1⟩
  go_wp2_with fail
  refine (ch _).mono ?_
  rintro e w2 ⟨rfl, g2⟩
  go_wp2
  go_ret
  exact ⟨rfl, g1.trans g2⟩
theorem setR {pm pc W H : Nat} {L : List Int} (w : World) (hI : Img w pm pc W H L) (x y c : Int) (h : hasB 0 0 W H x y = false) :
    Calls Try.prog 7 #[.pointer (some ⟨pm, 0, none⟩), .int .i64 x, .int .i64 y, .int .u32 c] w (Rt w (.int .i64 4)) := setRX w hI.x x y c h

set_option maxHeartbeats 1000000 in
theorem setAX {pm pc W H : Nat} {L : List Int} {X : List Value} (w : World) (hI : ImgX w pm pc W H L X) (x y c : Int) (hc : C32 c) (h : hasB 0 0 W H x y = true) (hm : mayC c = false) :
    Calls Try.prog 7 #[.pointer (some ⟨pm, 0, none⟩), .int .i64 x, .int .i64 y, .int .u32 c] w (Rt w (.int .i64 1)) := by
  have cb := boxX w hI
  have ch := fun w => has1 0 0 W H x y w
  have cm := fun w => cmay1 c w hc
  rw [h] at ch
  rw [hm] at cm
  go_enter Try.func7, Try.ntmps7
  go_wp2_with fail
  refine cb.mono ?_
  rintro e w1 ⟨rfl, g1⟩
  go_wp2_with fail
  refine (ch _).mono ?_
  rintro e w2 ⟨rfl, g2⟩
  go_wp2_with fail
  refine (cm _).mono ?_
  rintro e w3 ⟨rfl, g3⟩
  go_wp2
  go_ret
  exact ⟨rfl, (g1.trans g2).trans g3⟩
theorem setA {pm pc W H : Nat} {L : List Int} (w : World) (hI : Img w pm pc W H L) (x y c : Int) (hc : C32 c) (h : hasB 0 0 W H x y = true) (hm : mayC c = false) :
    Calls Try.prog 7 #[.pointer (some ⟨pm, 0, none⟩), .int .i64 x, .int .i64 y, .int .u32 c] w (Rt w (.int .i64 1)) := setAX w hI.x x y c hc h hm

set_option maxHeartbeats 1000000 in
theorem set1X {pm pc W H : Nat} {L : List Int} {X : List Value} (w : World) (hI : ImgX w pm pc W H L X) (i j : Nat) (hi : i < W) (hj : j < H) (c : Int) (hc : C32 c) (hm : mayC c = true) :
    Calls Try.prog 7 #[.pointer (some ⟨pm, 0, none⟩), .int .i64 i, .int .i64 j, .int .u32 c] w (fun e w' => e = .returned (.int .i64 0) ∧ w.grownBy w' (some pc) ∧ ImgX w' pm pc W H (L.set (j * W + i) c) X) := by
  have cb := boxX w hI
  have ch := fun w => has1 0 0 W H i j w
  have cm := fun w => cmay1 c w hc
  rw [show hasB 0 0 W H i j = true from by simp [hasB]; omega] at ch
  rw [hm] at cm
  have hk := row_of hi hj
  have hle := area_le hI.w2 hI.h2
  rw [← hI.len] at hk hle
  have e1 : IntKind.i64.wrap ((j : Int) * (W : Int)) = ((j * W : Nat) : Int) := by rw [← Int.natCast_mul]; exact IntWalk.i64_in _ (by omega)
  have e2 : IntKind.i64.wrap (((j * W : Nat) : Int) + (i : Int)) = ((j * W + i : Nat) : Int) := by rw [← Int.natCast_add]; exact IntWalk.i64_in _ (by omega)
  have q1 : wrap64 ((j : Int) * (W : Int)) = ((j * W : Nat) : Int) := by rw [← Int.natCast_mul]; exact w64 (by omega) (by omega)
  have q2 : wrap64 (((j * W : Nat) : Int) + (i : Int)) = ((j * W + i : Nat) : Int) := by rw [← Int.natCast_add]; exact w64 (by omega) (by omega)
  obtain ⟨old, hold⟩ : ∃ old, L[j * W + i]? = some old := ⟨L[j * W + i], List.getElem?_eq_getElem hk⟩
  generalize j * W + i = k at *
  generalize j * W = p at *
  obtain ⟨n, hn⟩ : ∃ n, n = L.length := ⟨_, rfl⟩
  rw [← hn] at hk hle
  have hnn := Lib.hid hn
  clear hn
  go_enter Try.func7, Try.ntmps7
  go_wp2_with fail
  refine cb.mono ?_
  rintro e w1 ⟨rfl, g1⟩
  go_wp2_with fail
  refine (ch _).mono ?_
  rintro e w2 ⟨rfl, g2⟩
  go_wp2_with fail
  refine (cm _).mono ?_
  rintro e w3 ⟨rfl, g3⟩
  have J := ((hI.gr g1).gr g2).gr g3
  have k0 := J.c0; have k2 := J.c2; have k3 := J.at hold
  have k4 := J.cs.free k
  rw [← hnn.out] at k2
  replace g3 := (g1.trans g2).trans g3
  clear hold
  go_wp2
  go_region
  all_goals
    go_wp2
    go_ret
    exact ⟨rfl, by_drew (by_set (g3.by _) _), (J.set k c (by rw [← hnn.out]; exact hk)).gr (Gr.refl _).drew⟩
theorem set1 {pm pc W H : Nat} {L : List Int} (w : World) (hI : Img w pm pc W H L) (i j : Nat) (hi : i < W) (hj : j < H) (c : Int) (hc : C32 c) (hm : mayC c = true) :
    Calls Try.prog 7 #[.pointer (some ⟨pm, 0, none⟩), .int .i64 i, .int .i64 j, .int .u32 c] w (fun e w' => e = .returned (.int .i64 0) ∧ w.grownBy w' (some pc) ∧ Img w' pm pc W H (L.set (j * W + i) c)) :=
  (set1X w hI.x i j hi hj c hc hm).mono fun _ _ h => ⟨h.1, h.2.1, h.2.2.o⟩

set_option maxHeartbeats 1000000 in
theorem newN (W H : Int) (w : World) (h : W < 1 ∨ 256 < W ∨ H < 1 ∨ 256 < H) :
    Calls Try.prog 19 #[.int .i64 W, .int .i64 H] w (Rt w (.tuple #[.pointer none, .int .i64 1])) := by
  go_enter Try.func19, Try.ntmps19
  go_wp2
  all_goals first
    | (exfalso; omega)
    | (go_ret2; exact ⟨rfl, Gr.refl _⟩)

theorem cC_zero (n : Nat) : cC (List.replicate n 0) = Array.replicate n (.int .u32 0) := by
  apply Array.ext'
  simp [cC, List.map_replicate]

theorem infoC : (Try.prog.info? 30).map (fun i => (i.zero, i.size, i.bytes)) = some (some (.int .u32 0), 1, 4) := by kernel_rfl
theorem madeC (n : Nat) : madeCells #[Value.int .u32 0] n = cC (List.replicate n 0) := by
  rw [cC_zero]
  apply Array.ext
  · simp [madeCells]
  · intro i h1 h2; simp [madeCells, Nat.mod_one]
theorem makeC (n : Nat) (h : n ≤ 1000000000) (w : World) : (Instr.makeSlice 22 (.int .i64 n) (.int .i64 n)).run Try.prog w =
    .ok (.slice (some ⟨w.heap.size, 0, none⟩) n n) (w.alloc (.cells (cC (List.replicate n 0)) 30)) := by
  obtain ⟨i0, hi, hz0, hz1, hz2⟩ := info_parts infoC
  have := run_make (P := Try.prog) w 22 30 i0 _ Try.underlying22 hi hz0 .i64 .i64 n n (by omega) (Int.le_refl _) (by rw [hz2]; omega) (by omega)
  rw [this, hz1]
  have e : madeCells (Value.int .u32 0).cells n = cC (List.replicate n 0) := madeC n
  simp [e]

set_option maxHeartbeats 1000000 in
theorem new1 (W H : Nat) (w : World) (w1 : 1 ≤ W) (w2 : W ≤ 256) (h1 : 1 ≤ H) (h2 : H ≤ 256) :
    Calls Try.prog 19 #[.int .i64 W, .int .i64 H] w (fun e w' => ∃ pm pc, e = .returned (.tuple #[.pointer (some ⟨pm, 0, none⟩), .int .i64 0]) ∧ Img w' pm pc W H (List.replicate (W * H) 0) ∧ w.heap.size ≤ pm ∧ w.heap.size ≤ pc ∧ Gr w w') := by
  have hle := area_le w2 h2
  have e1 : IntKind.i64.wrap ((W : Int) * (H : Int)) = ((W * H : Nat) : Int) := by rw [← Int.natCast_mul]; exact IntWalk.i64_in _ (by omega)
  have q1 : wrap64 ((W : Int) * (H : Int)) = ((W * H : Nat) : Int) := by rw [← Int.natCast_mul]; exact w64 (by omega) (by omega)
  obtain ⟨n, hn⟩ : ∃ n, n = W * H := ⟨_, rfl⟩
  rw [← hn] at e1 q1 hle ⊢
  have hnn := Lib.hid hn
  clear hn
  have mk := makeC n (by omega)
  generalize hL : List.replicate n (0 : Int) = L at mk ⊢
  have hLL := Lib.hid hL
  clear hL
  have a1 := (At.new w (cC L) 30).alloc (.cells #[.int .i64 W, .int .i64 H, .slice (some ⟨w.heap.size, 0, none⟩) n n] 62)
  have a2 := At.newAt (w := w.alloc (.cells (cC L) 30)) (n := w.heap.size + 1) (by simp) #[.int .i64 W, .int .i64 H, .slice (some ⟨w.heap.size, 0, none⟩) n n] 62
  go_enter Try.func19, Try.ntmps19
  go_wp2
  go_ret2
  have hl : L.length = n := by rw [← hLL.out]; simp
  exact ⟨w.heap.size + 1, w.heap.size, rfl, { hd := by rw [hl]; exact a2, cs := a1, len := hl.trans hnn.out, w1 := w1, w2 := w2, h1 := h1, h2 := h2, ne := by omega }, by omega, by omega, ((Gr.refl w).alloc _).alloc _⟩

end Go.Proofs.Ytackojmckloacaa
