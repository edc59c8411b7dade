/-
  What is proved: what At of an image hands back at any point; what Shows and Color of the document's layers, and Color of package paint, hand back. No conditions but bounds. like of the statements tells an image that is the document's. what build and like of the statements of layers do; what New, Box, At of the document's images hand back is used. No conditions but bounds. what layer of the statements hands back. No conditions but bounds. what May, clipped and Box of package paint, and Box of the document's layers, hand back. No conditions but bounds. what a range over the points of a region comes to, as a law over a range wants it; two pointers that are not one; small facts for Draw of package paint. No conditions. what Pixel of package paint hands back. No conditions but bounds.
-/
import Derived.Test.YtablogiielclaaaGreatZz12
import Derived.Test.YtablogiielclaaaGreatZz11
import Derived.Test.YtablogiielclaaaGreatZz10
import Derived.Test.YtablogiielclaaaGreatZz9
import Derived.LaidEql
namespace Go.Proofs.YtablogiielclaaaGreat
open Go.RowKit Go.Sort Go.Deep

/-- The color at a point: 0 where there is none. -/
def atV (W H : Nat) (L : List Int) (x y : Int) : Int := if hasB 0 0 W H x y = true then L.getD (ixP W (x, y)) 0 else 0
theorem has_nat {W H : Nat} {x y : Int} (h : hasB 0 0 W H x y = true) : ∃ i j : Nat, x = (i : Int) ∧ y = (j : Int) ∧ i < W ∧ j < H := by
  simp [hasB] at h
  exact ⟨x.toNat, y.toNat, by omega, by omega, by omega, by omega⟩
theorem atV_nat {W H : Nat} {L : List Int} (hl : L.length = W * H) {i j : Nat} (hi : i < W) (hj : j < H) : L[j * W + i]? = some (atV W H L i j) := by
  have hk := row_of hi hj
  rw [← hl] at hk
  unfold atV
  rw [if_pos (by simp [hasB]; omega), ixP_nat, List.getElem?_eq_getElem hk]
  simp [List.getD, List.getElem?_eq_getElem hk]
theorem atV_no {W H : Nat} {L : List Int} {x y : Int} (h : hasB 0 0 W H x y = false) : atV W H L x y = 0 := by unfold atV; rw [if_neg (by simp [h])]
theorem atV_c32 {W H : Nat} {L : List Int} (x y : Int) (h : ∀ c ∈ L, C32 c) : C32 (atV W H L x y) := by
  unfold atV
  split
  · by_cases hk : ixP W (x, y) < L.length
    · simp only [List.getD, List.getElem?_eq_getElem hk, Option.getD_some]; exact h _ (List.getElem_mem hk)
    · simp only [List.getD, List.getElem?_eq_none (Nat.le_of_not_lt hk), Option.getD_none]; unfold C32; omega
  · unfold C32; omega
theorem refAtI {W H b c : Nat} {L : List Int} (w : World) (hR : RowN .u32 w b 0 L) (hl : L.length = W * H) (w2 : W ≤ 256) (h2 : H ≤ 256) (x y : Int) :
    Calls Tryz.prog 147 #[.agg #[.int .i64 W, .int .i64 H, .slice (some ⟨b, 0, none⟩) L.length c], .int .i64 x, .int .i64 y] w (Rt w (.tuple #[.int .u32 (atV W H L x y), .bool (hasB 0 0 W H x y)])) := by
  cases h : hasB 0 0 W H x y
  · rw [atV_no h]; exact refAt0 w x y h
  · obtain ⟨i, j, rfl, rfl, hi, hj⟩ := has_nat h
    exact refAt1 w hR hl w2 h2 i j hi hj _ (atV_nat hl hi hj)
theorem atI {pm pc W H : Nat} {L X} (w : World) (hI : ImgX w pm pc W H L X) (x y : Int) :
    Calls Tryz.prog 30 #[.pointer (some ⟨pm, 0, none⟩), .int .i64 x, .int .i64 y] w (Rt w (.tuple #[.int .u32 (atV W H L x y), .bool (hasB 0 0 W H x y)])) := by
  cases h : hasB 0 0 W H x y
  · rw [atV_no h]; exact at0X w hI x y h
  · obtain ⟨i, j, rfl, rfl, hi, hj⟩ := has_nat h
    exact at1X w hI i j hi hj _ (atV_nat hI.len hi hj)

/-- A layer's color at a point: 0 where it shows none. -/
def lyCol (cp : Rc) (W H : Nat) (L : List Int) (s ax ay al x y : Int) : Int := if lyHas cp W H s ax ay x y = true then fd (atV W H L ((x - ax) / s) ((y - ay) / s)) al else 0

def Far (n : Int) : Prop := -2000000000000 ≤ n ∧ n ≤ 2000000000000
theorem ediv_bd {d s : Int} (hs : 1 ≤ s) (h1 : -8000000000000 ≤ d) (h2 : d ≤ 8000000000000) : -8000000000000 ≤ d / s ∧ d / s ≤ 8000000000000 := by
  have e := Int.mul_ediv_add_emod d s
  have m1 := Int.emod_nonneg d (show s ≠ 0 by omega)
  have m2 := Int.emod_lt_of_pos d (show 0 < s by omega)
  constructor
  · rw [Int.le_ediv_iff_mul_le (by omega)]
    omega
  · have h3 : d / s < 8000000000001 := by
      rw [Int.ediv_lt_iff_lt_mul (by omega)]
      omega
    omega

set_option maxRecDepth 100000 in
set_option maxHeartbeats 2000000 in
theorem rshows1 {W H rb rc : Nat} {L : List Int} (n : Nat) (hn : n = L.length) (ax ay s al : Int) (cp : Rc) (sm : Bool) (x y : Int) (w : World) (hR : RowN .u32 w rb 0 L) (hl : L.length = W * H) (hW : W ≤ 256) (hH : H ≤ 256) (hs1 : 1 ≤ s) (hs8 : s ≤ 8) (hx : Far x) (hy : Far y) (hax : Far ax) (hay : Far ay) :
    Calls Tryz.prog 146 #[.agg #[.bool sm, .int .i64 W, .int .i64 H, .slice (some ⟨rb, 0, none⟩) n rc, .int .i64 ax, .int .i64 ay, .int .i64 s, .int .i64 al, .int .i64 cp.a, .int .i64 cp.b, .int .i64 cp.c, .int .i64 cp.d], .int .i64 x, .int .i64 y] w
      (Rt w (.tuple #[.int .i64 ((x - ax) / s), .int .i64 ((y - ay) / s), .bool (lyHas cp W H s ax ay x y)])) := by
  obtain ⟨hx1, hx2⟩ := hx
  obtain ⟨hy1, hy2⟩ := hy
  obtain ⟨a1, a2⟩ := hax
  obtain ⟨b1, b2⟩ := hay
  have c1 := fun w => rfloor1 (x - ax) s w hs1 hs8 (by omega) (by omega)
  have c2 := fun w => rfloor1 (y - ay) s w hs1 hs8 (by omega) (by omega)
  have g := (Gr.refl w).alloc (.cells #[.bool sm, .int .i64 W, .int .i64 H, .slice (some ⟨rb, 0, none⟩) n rc, .int .i64 ax, .int .i64 ay, .int .i64 s, .int .i64 al, .int .i64 cp.a, .int .i64 cp.b, .int .i64 cp.c, .int .i64 cp.d] 124)
  have B0 := At.new w #[.bool sm, .int .i64 W, .int .i64 H, .slice (some ⟨rb, 0, none⟩) n rc, .int .i64 ax, .int .i64 ay, .int .i64 s, .int .i64 al, .int .i64 cp.a, .int .i64 cp.b, .int .i64 cp.c, .int .i64 cp.d] 124
  have cA := fun (w' : World) (h : Gr w w') x y => refAtI (c := rc) w' (hR.gr h) hl hW hH x y
  rw [← hn] at cA
  have hv : lyHas cp W H s ax ay x y = (hasB 0 0 W H ((x - ax) / s) ((y - ay) / s) && hasB cp.a cp.b cp.c cp.d ((x - ax) / s) ((y - ay) / s)) := rfl
  rw [hv]
  clear hv hl hR hn
  have e1 : wrap64 (x - ax) = x - ax := w64i (by omega) (by omega)
  have e2 : wrap64 (y - ay) = y - ay := w64i (by omega) (by omega)
  obtain ⟨u, hu⟩ : ∃ u, u = (x - ax) / s := ⟨_, rfl⟩
  obtain ⟨v, hv⟩ : ∃ v, v = (y - ay) / s := ⟨_, rfl⟩
  rw [← hu] at c1 ⊢
  rw [← hv] at c2 ⊢
  clear hu hv
  have cH := fun w => refhas1 cp.a cp.b cp.c cp.d u v w
  cases hi : hasB 0 0 W H u v
  · have cA1 := fun w' h => cA w' h u v
    rw [hi, atV_no hi] at cA1
    clear cA hi
    rw [Bool.false_and]
    go_enter Tryz.func146, Tryz.ntmps146
    go_wp2_with fail
    refine (c1 _).mono ?_
    rintro e w1 ⟨rfl, rfl⟩
    go_wp2_with fail
    refine (c2 _).mono ?_
    rintro e w1 ⟨rfl, rfl⟩
    go_wp2_with fail
    refine (cA1 _ g).mono ?_
    rintro e w1 ⟨rfl, g1⟩
    go_wp2
    refine bodyPost_ret (results_tmp3 rfl _ _ _) rfl ?_
    exact ⟨rfl, g.trans g1⟩
  · have cA1 := fun w' h => cA w' h u v
    rw [hi] at cA1
    generalize atV W H L u v = q at cA1
    clear cA hi
    rw [Bool.true_and]
    go_enter Tryz.func146, Tryz.ntmps146
    go_wp2_with fail
    refine (c1 _).mono ?_
    rintro e w1 ⟨rfl, rfl⟩
    go_wp2_with fail
    refine (c2 _).mono ?_
    rintro e w1 ⟨rfl, rfl⟩
    go_wp2_with fail
    refine (cA1 _ g).mono ?_
    rintro e w1 ⟨rfl, g1⟩
    have B1 := B0.gr g1
    have k0 : w1.cell? ⟨w.heap.size, 8, none⟩ = some (.int .i64 cp.a) := B1.cell 8
    have k1 : w1.cell? ⟨w.heap.size, 9, none⟩ = some (.int .i64 cp.b) := B1.cell 9
    have k2 : w1.cell? ⟨w.heap.size, 10, none⟩ = some (.int .i64 cp.c) := B1.cell 10
    have k3 : w1.cell? ⟨w.heap.size, 11, none⟩ = some (.int .i64 cp.d) := B1.cell 11
    go_wp2_with fail
    refine (cH _).mono ?_
    rintro e w2 ⟨rfl, g2⟩
    go_wp2
    refine bodyPost_ret (results_tmp3 rfl _ _ _) rfl ?_
    exact ⟨rfl, (g.trans g1).trans g2⟩

set_option maxRecDepth 100000 in
set_option maxHeartbeats 2000000 in
theorem rcolor1 {W H rb rc : Nat} {L : List Int} (n : Nat) (hn : n = L.length) (ax ay s al : Int) (cp : Rc) (sm : Bool) (x y : Int) (w : World) (hR : RowN .u32 w rb 0 L) (hl : L.length = W * H) (h32 : ∀ c ∈ L, C32 c) (hW : W ≤ 256) (hH : H ≤ 256) (hs1 : 1 ≤ s) (hs8 : s ≤ 8) (hx : Far x) (hy : Far y) (hax : Far ax) (hay : Far ay) :
    Calls Tryz.prog 89 #[.agg #[.bool sm, .int .i64 W, .int .i64 H, .slice (some ⟨rb, 0, none⟩) n rc, .int .i64 ax, .int .i64 ay, .int .i64 s, .int .i64 al, .int .i64 cp.a, .int .i64 cp.b, .int .i64 cp.c, .int .i64 cp.d], .int .i64 x, .int .i64 y] w
      (Rt w (.tuple #[.int .u32 (lyCol cp W H L s ax ay al x y), .bool (lyHas cp W H s ax ay x y)])) := by
  have cS := fun (w' : World) (h : Gr w w') => rshows1 (rc := rc) n hn ax ay s al cp sm x y w' (hR.gr h) hl hW hH hs1 hs8 hx hy hax hay
  have g := (Gr.refl w).alloc (.cells #[.bool sm, .int .i64 W, .int .i64 H, .slice (some ⟨rb, 0, none⟩) n rc, .int .i64 ax, .int .i64 ay, .int .i64 s, .int .i64 al, .int .i64 cp.a, .int .i64 cp.b, .int .i64 cp.c, .int .i64 cp.d] 124)
  have B0 := At.new w #[.bool sm, .int .i64 W, .int .i64 H, .slice (some ⟨rb, 0, none⟩) n rc, .int .i64 ax, .int .i64 ay, .int .i64 s, .int .i64 al, .int .i64 cp.a, .int .i64 cp.b, .int .i64 cp.c, .int .i64 cp.d] 124
  have cA := fun (w' : World) (h : Gr w w') x y => refAtI (c := rc) w' (hR.gr h) hl hW hH x y
  rw [← hn] at cA
  have hq := atV_c32 (W := W) (H := H) ((x - ax) / s) ((y - ay) / s) h32
  have hv : lyHas cp W H s ax ay x y = true → hasB 0 0 W H ((x - ax) / s) ((y - ay) / s) = true := fun h => by unfold lyHas at h; simp at h; exact h.1
  have hc : lyCol cp W H L s ax ay al x y = if lyHas cp W H s ax ay x y = true then fd (atV W H L ((x - ax) / s) ((y - ay) / s)) al else 0 := rfl
  rw [hc]
  have cA1 := fun w' h => cA w' h ((x - ax) / s) ((y - ay) / s)
  clear hc hl hR hn cA
  generalize (x - ax) / s = u at *
  generalize (y - ay) / s = v at *
  cases hi : lyHas cp W H s ax ay x y
  · rw [hi] at cS
    rw [if_neg (by simp)]
    clear hv hi hq cA1
    go_enter Tryz.func89, Tryz.ntmps89
    go_wp2_with fail
    refine (cS _ g).mono ?_
    rintro e w1 ⟨rfl, g1⟩
    go_wp2
    go_ret2
    exact ⟨rfl, g.trans g1⟩
  · rw [hi] at cS
    rw [if_pos rfl]
    rw [hv hi] at cA1
    generalize atV W H L u v = q at *
    have cF := fun w => reffade1 q al w hq
    clear hv hi hq
    go_enter Tryz.func89, Tryz.ntmps89
    go_wp2_with fail
    refine (cS _ g).mono ?_
    rintro e w1 ⟨rfl, g1⟩
    have B1 := B0.gr g1
    have k1 : w1.cell? ⟨w.heap.size, 1, none⟩ = some (.int .i64 W) := B1.cell 1
    have k2 : w1.cell? ⟨w.heap.size, 2, none⟩ = some (.int .i64 H) := B1.cell 2
    have k3 : w1.cell? ⟨w.heap.size, 3, none⟩ = some (.slice (some ⟨rb, 0, none⟩) n rc) := B1.cell 3
    go_wp2_with fail
    refine (cA1 _ (g.trans g1)).mono ?_
    rintro e w2 ⟨rfl, g2⟩
    have k7 : w2.cell? ⟨w.heap.size, 7, none⟩ = some (.int .i64 al) := (B1.gr g2).cell 7
    clear k1 k2 k3
    go_wp2_with fail
    refine (cF _).mono ?_
    rintro e w3 ⟨rfl, g3⟩
    go_wp2
    go_ret2
    exact ⟨rfl, ((g.trans g1).trans g2).trans g3⟩

attribute [local go_sem] cell?_grow frozen?_grow nlt_r

set_option maxRecDepth 100000 in
set_option maxHeartbeats 4000000 in
theorem pcolAt1 {pm pc W H : Nat} {L X} (ax ay s al : Int) (cp : Rc) (x y : Int) (w : World) (hI : ImgX w pm pc W H L X) (h32 : ∀ c ∈ L, C32 c) (hs1 : 1 ≤ s) (hs8 : s ≤ 8) (hx : Far x) (hy : Far y) (hax : Far ax) (hay : Far ay) (hxa : ax ≤ x) (hya : ay ≤ y) :
    Calls Tryz.prog 95 #[.agg #[.pointer (some ⟨pm, 0, none⟩), .int .i64 ax, .int .i64 ay, .int .i64 s, .int .i64 al, .int .i64 cp.a, .int .i64 cp.b, .int .i64 cp.c, .int .i64 cp.d], .int .i64 x, .int .i64 y] w
      (Rt w (.int .u32 (fd (atV W H L ((x - ax) / s) ((y - ay) / s)) al))) := by
  obtain ⟨hx1, hx2⟩ := hx
  obtain ⟨hy1, hy2⟩ := hy
  obtain ⟨a1, a2⟩ := hax
  obtain ⟨b1, b2⟩ := hay
  have g := (Gr.refl w).alloc (.cells #[.pointer (some ⟨pm, 0, none⟩), .int .i64 ax, .int .i64 ay, .int .i64 s, .int .i64 al, .int .i64 cp.a, .int .i64 cp.b, .int .i64 cp.c, .int .i64 cp.d] 65)
  have B0 := At.new w #[.pointer (some ⟨pm, 0, none⟩), .int .i64 ax, .int .i64 ay, .int .i64 s, .int .i64 al, .int .i64 cp.a, .int .i64 cp.b, .int .i64 cp.c, .int .i64 cp.d] 65
  have cA := fun (w' : World) (h : Gr w w') x y => atI w' (hI.gr h) x y
  have hq := atV_c32 (W := W) (H := H) ((x - ax) / s) ((y - ay) / s) h32
  have cA1 := fun w' h => cA w' h ((x - ax) / s) ((y - ay) / s)
  have e1 : wrap64 (x - ax) = x - ax := w64i (by omega) (by omega)
  have e2 : wrap64 (y - ay) = y - ay := w64i (by omega) (by omega)
  have f1 : IntKind.i64.wrap (x - ax) = x - ax := IntWalk.i64_in _ (by omega)
  have f2 : IntKind.i64.wrap (y - ay) = y - ay := IntWalk.i64_in _ (by omega)
  have d1 : 0 ≤ x - ax := by omega
  have d2 : 0 ≤ y - ay := by omega
  obtain ⟨u, hu⟩ : ∃ u, u = (x - ax) / s := ⟨_, rfl⟩
  obtain ⟨v, hv⟩ : ∃ v, v = (y - ay) / s := ⟨_, rfl⟩
  obtain ⟨u1, u2⟩ := ediv_bd hs1 (d := x - ax) (by omega) (by omega)
  obtain ⟨v1, v2⟩ := ediv_bd hs1 (d := y - ay) (by omega) (by omega)
  rw [← hu] at cA1 hq u1 u2 ⊢
  rw [← hv] at cA1 hq v1 v2 ⊢
  have t1 : (x - ax).tdiv s = u := by rw [Int.tdiv_eq_ediv_of_nonneg d1, hu]
  have t2 : (y - ay).tdiv s = v := by rw [Int.tdiv_eq_ediv_of_nonneg d2, hv]
  have t3 : (x - ax) / s = u := hu.symm
  have t4 : (y - ay) / s = v := hv.symm
  have z1 : IntKind.i64.wrap u = u := IntWalk.i64_in _ (by omega)
  have z2 : IntKind.i64.wrap v = v := IntWalk.i64_in _ (by omega)
  have z3 : wrap64 u = u := w64i (by omega) (by omega)
  have z4 : wrap64 v = v := w64i (by omega) (by omega)
  have hz : ¬ s = 0 := by omega
  generalize atV W H L u v = q at *
  have cF := fun w => fade1 q al w hq
  clear hu hv cA hI hq
  go_enter Tryz.func95, Tryz.ntmps95
  go_wp2
  obtain ⟨V, hV⟩ : ∃ V, V = w.alloc (.cells #[.pointer (some ⟨pm, 0, none⟩), .int .i64 ax, .int .i64 ay, .int .i64 s, .int .i64 al, .int .i64 cp.a, .int .i64 cp.b, .int .i64 cp.c, .int .i64 cp.d] 65) := ⟨_, rfl⟩
  rw [← hV] at B0 g ⊢
  clear hV
  generalize w.heap.size = b at B0 ⊢
  have x0 : ∀ n os, (grow (V.drewN n) os).cell? ⟨b, 0, none⟩ = some (.pointer (some ⟨pm, 0, none⟩)) := fun q os => B0.cells q os 0
  have x1 : ∀ n os, (grow (V.drewN n) os).cell? ⟨b, 1, none⟩ = some (.int .i64 ax) := fun q os => B0.cells q os 1
  have x2 : ∀ n os, (grow (V.drewN n) os).cell? ⟨b, 2, none⟩ = some (.int .i64 ay) := fun q os => B0.cells q os 2
  have x3 : ∀ n os, (grow (V.drewN n) os).cell? ⟨b, 3, none⟩ = some (.int .i64 s) := fun q os => B0.cells q os 3
  have x4 : ∀ n os, (grow (V.drewN n) os).cell? ⟨b, 4, none⟩ = some (.int .i64 al) := fun q os => B0.cells q os 4
  have cA2 := fun q os => cA1 _ (g.trans (((Gr.refl V).drewN q).grow os))
  refine wp_region_quiet_grown (by kernel_rfl) (by kernel_rfl) ?_
  repeat (first | go_big_quiet_step ((go_at_call 30; exact Calls.grown (cA2 _ _))) | quiet_step ((go_at_call 30; exact Calls.grown (cA2 _ _))))
  refine wpQuiet_nil ?_
  intro W2 g8
  replace g8 : Gr _ W2 := g8
  have k4 : W2.cell? ⟨b, 4, none⟩ = some (.int .i64 al) := (B0.gr g8).cell 4
  clear x0 x1 x2 x3 x4 e1 e2 f1 f2 t1 t2 t3 t4 cA1 cA2
  go_wp2_with fail
  refine (cF _).mono ?_
  rintro e w3 ⟨rfl, g3⟩
  go_wp2
  go_ret
  exact ⟨rfl, (g.trans g8).trans g3⟩

set_option maxRecDepth 100000 in
set_option maxHeartbeats 2000000 in
theorem pcolor1 {pm pc W H : Nat} {L X} (ax ay s al : Int) (cp : Rc) (x y : Int) (w : World) (hI : ImgX w pm pc W H L X) (h32 : ∀ c ∈ L, C32 c) (hs1 : 1 ≤ s) (hs8 : s ≤ 8) (hx : Far x) (hy : Far y) (hax : Far ax) (hay : Far ay)
    (cB : ∀ w', Gr w w' → Calls Tryz.prog 94 #[.agg #[.pointer (some ⟨pm, 0, none⟩), .int .i64 ax, .int .i64 ay, .int .i64 s, .int .i64 al, .int .i64 cp.a, .int .i64 cp.b, .int .i64 cp.c, .int .i64 cp.d]] w' (Rt w' (.agg #[.int .i64 (lyBox cp W H s ax ay).a, .int .i64 (lyBox cp W H s ax ay).b, .int .i64 (lyBox cp W H s ax ay).c, .int .i64 (lyBox cp W H s ax ay).d]))) :
    Calls Tryz.prog 24 #[.agg #[.pointer (some ⟨pm, 0, none⟩), .int .i64 ax, .int .i64 ay, .int .i64 s, .int .i64 al, .int .i64 cp.a, .int .i64 cp.b, .int .i64 cp.c, .int .i64 cp.d], .int .i64 x, .int .i64 y] w
      (Rt w (.tuple #[.int .u32 (lyCol cp W H L s ax ay al x y), .bool (lyHas cp W H s ax ay x y)])) := by
  have g := (Gr.refl w).alloc (.cells #[.pointer (some ⟨pm, 0, none⟩), .int .i64 ax, .int .i64 ay, .int .i64 s, .int .i64 al, .int .i64 cp.a, .int .i64 cp.b, .int .i64 cp.c, .int .i64 cp.d] 65)
  have B0 := At.new w #[.pointer (some ⟨pm, 0, none⟩), .int .i64 ax, .int .i64 ay, .int .i64 s, .int .i64 al, .int .i64 cp.a, .int .i64 cp.b, .int .i64 cp.c, .int .i64 cp.d] 65
  have cH := fun w => has1 (lyBox cp W H s ax ay).a (lyBox cp W H s ax ay).b (lyBox cp W H s ax ay).c (lyBox cp W H s ax ay).d x y w
  rw [lyBox_has hs1] at cH
  have hc : lyCol cp W H L s ax ay al x y = if lyHas cp W H s ax ay x y = true then fd (atV W H L ((x - ax) / s) ((y - ay) / s)) al else 0 := rfl
  rw [hc]
  cases hi : lyHas cp W H s ax ay x y
  · rw [hi] at cH
    rw [if_neg (by simp)]
    clear hc hi hI
    generalize lyBox cp W H s ax ay = bx at *
    obtain ⟨p1, p2, p3, p4⟩ := bx
    dsimp only at cB cH
    go_enter Tryz.func24, Tryz.ntmps24
    go_wp2_with fail
    refine (cB _ g).mono ?_
    rintro e w1 ⟨rfl, g1⟩
    go_wp2_with fail
    refine (cH _).mono ?_
    rintro e w2 ⟨rfl, g2⟩
    go_wp2
    go_ret2
    exact ⟨rfl, (g.trans g1).trans g2⟩
  · rw [hi] at cH
    rw [if_pos rfl]
    have hxy : ax ≤ x ∧ ay ≤ y := by
      unfold lyHas hasB at hi
      simp at hi
      obtain ⟨⟨h1, _, h2, _⟩, _⟩ := hi
      constructor
      · rcases Int.lt_or_le (x - ax) 0 with h | h
        · have := Int.ediv_neg_of_neg_of_pos h (show 0 < s by omega); omega
        · omega
      · rcases Int.lt_or_le (y - ay) 0 with h | h
        · have := Int.ediv_neg_of_neg_of_pos h (show 0 < s by omega); omega
        · omega
    have cC := fun (w' : World) (h : Gr w w') => pcolAt1 ax ay s al cp x y w' (hI.gr h) h32 hs1 hs8 hx hy hax hay hxy.1 hxy.2
    generalize fd (atV W H L ((x - ax) / s) ((y - ay) / s)) al = q at *
    clear hc hi hxy hI
    generalize lyBox cp W H s ax ay = bx at *
    obtain ⟨p1, p2, p3, p4⟩ := bx
    dsimp only at cB cH
    go_enter Tryz.func24, Tryz.ntmps24
    go_wp2_with fail
    refine (cB _ g).mono ?_
    rintro e w1 ⟨rfl, g1⟩
    replace g := g.trans g1
    replace B0 := B0.gr g1
    clear g1
    go_wp2_with fail
    refine (cH _).mono ?_
    rintro e w2 ⟨rfl, g2⟩
    replace g := g.trans g2
    replace B0 := B0.gr g2
    clear g2
    have x0 : w2.cell? ⟨w.heap.size, 0, none⟩ = some (.pointer (some ⟨pm, 0, none⟩)) := B0.cell 0
    have x1 : w2.cell? ⟨w.heap.size, 1, none⟩ = some (.int .i64 ax) := B0.cell 1
    have x2 : w2.cell? ⟨w.heap.size, 2, none⟩ = some (.int .i64 ay) := B0.cell 2
    have x3 : w2.cell? ⟨w.heap.size, 3, none⟩ = some (.int .i64 s) := B0.cell 3
    have x4 : w2.cell? ⟨w.heap.size, 4, none⟩ = some (.int .i64 al) := B0.cell 4
    have x5 : w2.cell? ⟨w.heap.size, 5, none⟩ = some (.int .i64 cp.a) := B0.cell 5
    have x6 : w2.cell? ⟨w.heap.size, 6, none⟩ = some (.int .i64 cp.b) := B0.cell 6
    have x7 : w2.cell? ⟨w.heap.size, 7, none⟩ = some (.int .i64 cp.c) := B0.cell 7
    have x8 : w2.cell? ⟨w.heap.size, 8, none⟩ = some (.int .i64 cp.d) := B0.cell 8
    go_wp2_with fail
    refine (cC _ g).mono ?_
    rintro e w3 ⟨rfl, g3⟩
    go_wp2
    go_ret2
    exact ⟨rfl, g.trans g3⟩

end Go.Proofs.YtablogiielclaaaGreat
namespace Go.Proofs.YtablogiielclaaaGreat
open Go.RowKit Go.Sort Go.Deep

theorem ImgX.cellsG {w : World} {pm pc W H : Nat} {L : List Int} {X : List Value} (h : ImgX w pm pc W H L X) (n : Nat) (os : Array Obj) : ImgX (Go.Sort.grow (w.drewN n) os) pm pc W H L X := h.gr (((Gr.refl w).drewN n).grow os)
theorem Img.cellsG {w : World} {pm pc W H : Nat} {L : List Int} (h : Img w pm pc W H L) (n : Nat) (os : Array Obj) : Img (Go.Sort.grow (w.drewN n) os) pm pc W H L := h.gr (((Gr.refl w).drewN n).grow os)

end Go.Proofs.YtablogiielclaaaGreat
namespace Go.Proofs.YtablogiielclaaaGreat
open Go.RowKit Go.Sort Go.Deep

set_option maxRecDepth 100000 in
set_option maxHeartbeats 2000000 in
theorem pbuild1 {W H b c : Nat} {L : List Int} (w : World) (hR : RowN .u32 w b 0 L) (hl : L.length = W * H) (w1 : 1 ≤ W) (w2 : W ≤ 256) (h1 : 1 ≤ H) (h2 : H ≤ 256) (hM : MayL L) :
    Calls Tryz.prog 59 #[.agg #[.int .i64 W, .int .i64 H, .slice (some ⟨b, 0, none⟩) L.length c]] w
      (fun e w' => ∃ pm pc, e = .returned (.pointer (some ⟨pm, 0, none⟩)) ∧ Img w' pm pc W H L ∧ w.heap.size ≤ pm ∧ w.heap.size ≤ pc ∧ Bl w w') := by
  have hb0 : 0 < L.length := by rw [hl]; exact Nat.mul_pos w1 h1
  have hle := area_le w2 h2
  have B0 := At.new w #[.int .i64 W, .int .i64 H, .slice (some ⟨b, 0, none⟩) L.length c] 27
  have cn := new1 W H (w.alloc (.cells #[.int .i64 W, .int .i64 H, .slice (some ⟨b, 0, none⟩) L.length c] 27)) w1 w2 h1 h2
  have hR1 := hR.gr ((Gr.refl w).alloc (.cells #[.int .i64 W, .int .i64 H, .slice (some ⟨b, 0, none⟩) L.length c] 27))
  have G0 := ((Gr.refl w).alloc (.cells #[.int .i64 W, .int .i64 H, .slice (some ⟨b, 0, none⟩) L.length c] 27)).bl
  have hbl : b < w.heap.size := World.block_lt_of_cell? w _ (hR 0 L[0] (List.getElem?_eq_getElem hb0))
  rw [← hl] at hle cn
  obtain ⟨n, hn⟩ : ∃ n, n = L.length := ⟨_, rfl⟩
  rw [← hn] at hle cn B0 hR1 G0 ⊢
  have hnn := Lib.hid hn
  have hll := Lib.hid hl
  clear hn hl hR hb0
  go_enter Tryz.func59, Tryz.ntmps59
  go_wp2_with fail
  refine cn.mono ?_
  rintro e v1 ⟨pm, pc, rfl, I1, m1, m2, g1⟩
  replace B0 := B0.gr g1
  replace hR1 := hR1.gr g1
  replace G0 := G0.gr g1
  simp at m1 m2
  have hz : L.take 0 ++ List.replicate (n - 0) 0 = List.replicate n 0 := by simp
  rw [← hz] at I1
  clear hz cn g1
  go_wp2_with fail
  go_loopw [5] (fun i wr => ∃ k : Nat, k ≤ n ∧ i = .int .i64 k ∧ Img wr pm pc W H (L.take k ++ List.replicate (n - k) 0) ∧ At wr w.heap.size #[.int .i64 W, .int .i64 H, .slice (some ⟨b, 0, none⟩) n c] 27 ∧ RowN .u32 wr b 0 L ∧ Bl w wr)
    (fun i _ => n - (intOf i).toNat)
  case atStart => exact ⟨0, Nat.zero_le _, rfl, I1, B0, hR1, G0⟩
  case round =>
    obtain ⟨k, hk, rfl, Ik, Bk, Rk, Gk⟩ := hrel
    have b0 : wr.cell? ⟨w.heap.size, 0, none⟩ = some (.int .i64 W) := Bk.cell 0
    have b1 : wr.cell? ⟨w.heap.size, 2, none⟩ = some (.slice (some ⟨b, 0, none⟩) n c) := Bk.cell 2
    by_cases hlt : k < n
    · obtain ⟨d1, d2, d3⟩ := div_of (k := k) (H := H) w1 (by rw [← hll.out, ← hnn.out]; exact hlt)
      obtain ⟨i, j, hi, hj, x1, x2, x3, x4, x5, x6, x7, x8⟩ := rem_quo k W w1 (by omega)
      rw [← hi, ← hj] at d3
      rw [← hi] at d1
      rw [← hj] at d2
      clear hi hj
      obtain ⟨x, hx⟩ : ∃ x, L[k]? = some x := ⟨L[k]'(by rw [← hnn.out]; exact hlt), List.getElem?_eq_getElem _⟩
      have c1 : wr.cell? ⟨b, k, none⟩ = some (.int .u32 x) := by have := Rk _ _ hx; rwa [Nat.zero_add] at this
      obtain ⟨hx1, hx2⟩ := hM x (get_of hx).1
      have cs := fun (w' : World) (h : Img w' pm pc W H (L.take k ++ List.replicate (n - k) 0)) => set1 w' h i j d1 d2 x hx1 hx2
      rw [d3, take_set_z hlt hx] at cs
      clear d3 hx
      go_wp2
      go_still_tail 14, (by kernel_rfl)
      change wpList _ _ _ _ _ wr.drew
      go_wp2_with fail
      refine (cs _ (Ik.gr (Gr.refl wr).drew)).mono ?_
      rintro e v2 ⟨rfl, g2, I2⟩
      have g3 := by_trans ((Gr.refl wr).drew.by (some pc)) g2
      have p1 := Bk.lt
      have p2 := Gk.size
      go_wp2
      go_roundw
      case rel => exact ⟨k + 1, by omega, by simp, I2, Bk.kept g3 (by simp; omega), Rk.kept g3 (by simp; omega), Gk.row g3 (by omega)⟩
      case measure => simp [intOf]; omega
    · obtain rfl : k = n := by omega
      go_wp2
      go_ret
      refine ⟨pm, pc, rfl, ?_, by omega, by omega, Gk⟩
      have e : L.take k ++ List.replicate (k - k) 0 = L := by simp [hnn.out]
      rwa [e] at Ik


end Go.Proofs.YtablogiielclaaaGreat
namespace Go.Proofs.YtablogiielclaaaGreat
open Go.RowKit Go.Sort Go.Deep

set_option maxRecDepth 100000 in
set_option maxHeartbeats 2000000 in
theorem layer0 (W H : Nat) (A : Option Addr) (n rc : Nat) (ax ay s al : Int) (cp : Rc) (w : World) :
    Calls Tryz.prog 54 #[.agg #[.bool false, .int .i64 W, .int .i64 H, .slice A n rc, .int .i64 ax, .int .i64 ay, .int .i64 s, .int .i64 al, .int .i64 cp.a, .int .i64 cp.b, .int .i64 cp.c, .int .i64 cp.d]] w (Rt w (.agg #[.pointer none, .int .i64 ax, .int .i64 ay, .int .i64 s, .int .i64 al, .int .i64 cp.a, .int .i64 cp.b, .int .i64 cp.c, .int .i64 cp.d])) := by
  have G := (((Gr.refl w).alloc (.cells #[.bool false, .int .i64 W, .int .i64 H, .slice A n rc, .int .i64 ax, .int .i64 ay, .int .i64 s, .int .i64 al, .int .i64 cp.a, .int .i64 cp.b, .int .i64 cp.c, .int .i64 cp.d] 124)).alloc (.cells #[.pointer none, .int .i64 ax, .int .i64 ay, .int .i64 s, .int .i64 al, .int .i64 cp.a, .int .i64 cp.b, .int .i64 cp.c, .int .i64 cp.d] 65)).alloc (.cells #[.pointer none, .int .i64 ax, .int .i64 ay, .int .i64 s, .int .i64 al, .int .i64 cp.a, .int .i64 cp.b, .int .i64 cp.c, .int .i64 cp.d] 65)
  go_enter Tryz.func54, Tryz.ntmps54
  go_wp2
  exact bodyPost_ret (v := .agg #[.pointer none, .int .i64 ax, .int .i64 ay, .int .i64 s, .int .i64 al, .int .i64 cp.a, .int .i64 cp.b, .int .i64 cp.c, .int .i64 cp.d]) (by simp [results, Tryz.results54, go_sem]) rfl ⟨rfl, G⟩

set_option maxRecDepth 100000 in
set_option maxHeartbeats 4000000 in
theorem layer1 {W H rb rc n : Nat} {L : List Int} (ax ay s al : Int) (cp : Rc) (w : World) (hR : RowN .u32 w rb 0 L) (hn : n = L.length) (hl : L.length = W * H) (w1 : 1 ≤ W) (w2 : W ≤ 256) (h1 : 1 ≤ H) (h2 : H ≤ 256) (hM : MayL L) :
    Calls Tryz.prog 54 #[.agg #[.bool true, .int .i64 W, .int .i64 H, .slice (some ⟨rb, 0, none⟩) n rc, .int .i64 ax, .int .i64 ay, .int .i64 s, .int .i64 al, .int .i64 cp.a, .int .i64 cp.b, .int .i64 cp.c, .int .i64 cp.d]] w (fun e w' => ∃ pm pc, e = .returned (.agg #[.pointer (some ⟨pm, 0, none⟩), .int .i64 ax, .int .i64 ay, .int .i64 s, .int .i64 al, .int .i64 cp.a, .int .i64 cp.b, .int .i64 cp.c, .int .i64 cp.d]) ∧ Img w' pm pc W H L ∧ w.heap.size ≤ pm ∧ w.heap.size ≤ pc ∧ Bl w w') := by
  have G := (((Gr.refl w).alloc (.cells #[.bool true, .int .i64 W, .int .i64 H, .slice (some ⟨rb, 0, none⟩) n rc, .int .i64 ax, .int .i64 ay, .int .i64 s, .int .i64 al, .int .i64 cp.a, .int .i64 cp.b, .int .i64 cp.c, .int .i64 cp.d] 124)).alloc (.cells #[.pointer none, .int .i64 0, .int .i64 0, .int .i64 0, .int .i64 0, .int .i64 0, .int .i64 0, .int .i64 0, .int .i64 0] 65)).alloc (.cells #[.pointer none, .int .i64 ax, .int .i64 ay, .int .i64 s, .int .i64 al, .int .i64 cp.a, .int .i64 cp.b, .int .i64 cp.c, .int .i64 cp.d] 65)
  have R := (At.newAt (w := w.alloc (.cells #[.bool true, .int .i64 W, .int .i64 H, .slice (some ⟨rb, 0, none⟩) n rc, .int .i64 ax, .int .i64 ay, .int .i64 s, .int .i64 al, .int .i64 cp.a, .int .i64 cp.b, .int .i64 cp.c, .int .i64 cp.d] 124)) (n := w.heap.size + 1) (by simp) #[.pointer none, .int .i64 0, .int .i64 0, .int .i64 0, .int .i64 0, .int .i64 0, .int .i64 0, .int .i64 0, .int .i64 0] 65).alloc (.cells #[.pointer none, .int .i64 ax, .int .i64 ay, .int .i64 s, .int .i64 al, .int .i64 cp.a, .int .i64 cp.b, .int .i64 cp.c, .int .i64 cp.d] 65)
  have Y := At.newAt (w := (w.alloc (.cells #[.bool true, .int .i64 W, .int .i64 H, .slice (some ⟨rb, 0, none⟩) n rc, .int .i64 ax, .int .i64 ay, .int .i64 s, .int .i64 al, .int .i64 cp.a, .int .i64 cp.b, .int .i64 cp.c, .int .i64 cp.d] 124)).alloc (.cells #[.pointer none, .int .i64 0, .int .i64 0, .int .i64 0, .int .i64 0, .int .i64 0, .int .i64 0, .int .i64 0, .int .i64 0] 65)) (n := w.heap.size + 1 + 1) (by simp) #[.pointer none, .int .i64 ax, .int .i64 ay, .int .i64 s, .int .i64 al, .int .i64 cp.a, .int .i64 cp.b, .int .i64 cp.c, .int .i64 cp.d] 65
  have cb := fun (w : World) (h : RowN .u32 w rb 0 L) => pbuild1 (c := rc) w h hl w1 w2 h1 h2 hM
  rw [← hn] at cb
  clear hn hl hM
  go_enter Tryz.func54, Tryz.ntmps54
  go_wp2_with fail
  refine (cb _ (hR.gr G)).mono ?_
  rintro e v1 ⟨pm, pc, rfl, I1, hpm, hpc, g1⟩
  replace R := R.bl g1
  replace Y := Y.bl g1
  have GB := G.bl.trans g1
  simp at hpm hpc
  clear g1 G cb hR
  obtain ⟨b, hb⟩ : ∃ b, b = w.heap.size := ⟨_, rfl⟩
  have hbb : w.heap.size ≤ b := by omega
  rw [← hb] at R Y hpm hpc ⊢
  clear hb
  have k4 : v1.cell? ⟨b + 1 + 1, 0, none⟩ = some (.pointer none) := Y.cell 0
  have k5 := Y.free 0
  have Y1 := Y.put 0 (.pointer (some ⟨pm, 0, none⟩))
  have R1 := R.far (p := ⟨b + 1 + 1, 0, none⟩) (by simp) (.pointer (some ⟨pm, 0, none⟩))
  have G1 := GB.setCell (p := ⟨b + 1 + 1, 0, none⟩) (by simp; omega) (.pointer (some ⟨pm, 0, none⟩))
  have I2 := I1.kept (by_set (by_refl v1 _) (p := ⟨b + 1 + 1, 0, none⟩) (.pointer (some ⟨pm, 0, none⟩))) (by simp; omega) (by simp; omega)
  simp at Y1
  have x0 : (v1.setCell ⟨b + 1 + 1, 0, none⟩ (.pointer (some ⟨pm, 0, none⟩))).cell? ⟨b + 1 + 1, 0, none⟩ = some (.pointer (some ⟨pm, 0, none⟩)) := Y1.cell 0
  have x1 : (v1.setCell ⟨b + 1 + 1, 0, none⟩ (.pointer (some ⟨pm, 0, none⟩))).cell? ⟨b + 1 + 1, 1, none⟩ = some (.int .i64 ax) := Y1.cell 1
  have x2 : (v1.setCell ⟨b + 1 + 1, 0, none⟩ (.pointer (some ⟨pm, 0, none⟩))).cell? ⟨b + 1 + 1, 2, none⟩ = some (.int .i64 ay) := Y1.cell 2
  have x3 : (v1.setCell ⟨b + 1 + 1, 0, none⟩ (.pointer (some ⟨pm, 0, none⟩))).cell? ⟨b + 1 + 1, 3, none⟩ = some (.int .i64 s) := Y1.cell 3
  have x4 : (v1.setCell ⟨b + 1 + 1, 0, none⟩ (.pointer (some ⟨pm, 0, none⟩))).cell? ⟨b + 1 + 1, 4, none⟩ = some (.int .i64 al) := Y1.cell 4
  have x5 : (v1.setCell ⟨b + 1 + 1, 0, none⟩ (.pointer (some ⟨pm, 0, none⟩))).cell? ⟨b + 1 + 1, 5, none⟩ = some (.int .i64 cp.a) := Y1.cell 5
  have x6 : (v1.setCell ⟨b + 1 + 1, 0, none⟩ (.pointer (some ⟨pm, 0, none⟩))).cell? ⟨b + 1 + 1, 6, none⟩ = some (.int .i64 cp.b) := Y1.cell 6
  have x7 : (v1.setCell ⟨b + 1 + 1, 0, none⟩ (.pointer (some ⟨pm, 0, none⟩))).cell? ⟨b + 1 + 1, 7, none⟩ = some (.int .i64 cp.c) := Y1.cell 7
  have x8 : (v1.setCell ⟨b + 1 + 1, 0, none⟩ (.pointer (some ⟨pm, 0, none⟩))).cell? ⟨b + 1 + 1, 8, none⟩ = some (.int .i64 cp.d) := Y1.cell 8
  have y0 : (v1.setCell ⟨b + 1 + 1, 0, none⟩ (.pointer (some ⟨pm, 0, none⟩))).cell? ⟨b + 1, 0, none⟩ = some (.pointer none) := R1.cell 0
  have y1 : (v1.setCell ⟨b + 1 + 1, 0, none⟩ (.pointer (some ⟨pm, 0, none⟩))).cell? ⟨b + 1, 1, none⟩ = some (.int .i64 0) := R1.cell 1
  have y2 : (v1.setCell ⟨b + 1 + 1, 0, none⟩ (.pointer (some ⟨pm, 0, none⟩))).cell? ⟨b + 1, 2, none⟩ = some (.int .i64 0) := R1.cell 2
  have y3 : (v1.setCell ⟨b + 1 + 1, 0, none⟩ (.pointer (some ⟨pm, 0, none⟩))).cell? ⟨b + 1, 3, none⟩ = some (.int .i64 0) := R1.cell 3
  have y4 : (v1.setCell ⟨b + 1 + 1, 0, none⟩ (.pointer (some ⟨pm, 0, none⟩))).cell? ⟨b + 1, 4, none⟩ = some (.int .i64 0) := R1.cell 4
  have y5 : (v1.setCell ⟨b + 1 + 1, 0, none⟩ (.pointer (some ⟨pm, 0, none⟩))).cell? ⟨b + 1, 5, none⟩ = some (.int .i64 0) := R1.cell 5
  have y6 : (v1.setCell ⟨b + 1 + 1, 0, none⟩ (.pointer (some ⟨pm, 0, none⟩))).cell? ⟨b + 1, 6, none⟩ = some (.int .i64 0) := R1.cell 6
  have y7 : (v1.setCell ⟨b + 1 + 1, 0, none⟩ (.pointer (some ⟨pm, 0, none⟩))).cell? ⟨b + 1, 7, none⟩ = some (.int .i64 0) := R1.cell 7
  have y8 : (v1.setCell ⟨b + 1 + 1, 0, none⟩ (.pointer (some ⟨pm, 0, none⟩))).cell? ⟨b + 1, 8, none⟩ = some (.int .i64 0) := R1.cell 8
  have z0 := R1.free 0
  have z1 := R1.free 1
  have z2 := R1.free 2
  have z3 := R1.free 3
  have z4 := R1.free 4
  have z5 := R1.free 5
  have z6 := R1.free 6
  have z7 := R1.free 7
  have z8 := R1.free 8
  go_wp2
  have R5 := (((((((((R1.put 0 (.pointer (some ⟨pm, 0, none⟩))).put 1 (.int .i64 ax)).put 2 (.int .i64 ay)).put 3 (.int .i64 s)).put 4 (.int .i64 al)).put 5 (.int .i64 cp.a)).put 6 (.int .i64 cp.b)).put 7 (.int .i64 cp.c)).put 8 (.int .i64 cp.d))
  have G5 := (((((((((G1.setCell (p := ⟨b + 1, 0, none⟩) (by simp; omega) (.pointer (some ⟨pm, 0, none⟩))).setCell (p := ⟨b + 1, 1, none⟩) (by simp; omega) (.int .i64 ax)).setCell (p := ⟨b + 1, 2, none⟩) (by simp; omega) (.int .i64 ay)).setCell (p := ⟨b + 1, 3, none⟩) (by simp; omega) (.int .i64 s)).setCell (p := ⟨b + 1, 4, none⟩) (by simp; omega) (.int .i64 al)).setCell (p := ⟨b + 1, 5, none⟩) (by simp; omega) (.int .i64 cp.a)).setCell (p := ⟨b + 1, 6, none⟩) (by simp; omega) (.int .i64 cp.b)).setCell (p := ⟨b + 1, 7, none⟩) (by simp; omega) (.int .i64 cp.c)).setCell (p := ⟨b + 1, 8, none⟩) (by simp; omega) (.int .i64 cp.d))
  have I5 := I2.kept (by_set (by_set (by_set (by_set (by_set (by_set (by_set (by_set (by_set (by_refl _ _) (p := ⟨b + 1, 0, none⟩) (.pointer (some ⟨pm, 0, none⟩))) (p := ⟨b + 1, 1, none⟩) (.int .i64 ax)) (p := ⟨b + 1, 2, none⟩) (.int .i64 ay)) (p := ⟨b + 1, 3, none⟩) (.int .i64 s)) (p := ⟨b + 1, 4, none⟩) (.int .i64 al)) (p := ⟨b + 1, 5, none⟩) (.int .i64 cp.a)) (p := ⟨b + 1, 6, none⟩) (.int .i64 cp.b)) (p := ⟨b + 1, 7, none⟩) (.int .i64 cp.c)) (p := ⟨b + 1, 8, none⟩) (.int .i64 cp.d)) (by simp; omega) (by simp; omega)
  clear k4 k5 x0 y0 z0 x1 y1 z1 x2 y2 z2 x3 y3 z3 x4 y4 z4 x5 y5 z5 x6 y6 z6 x7 y7 z7 x8 y8 z8
  generalize ((((((((((v1.setCell ⟨b + 1 + 1, 0, none⟩ (.pointer (some ⟨pm, 0, none⟩))).setCell ⟨b + 1, 0, none⟩ (.pointer (some ⟨pm, 0, none⟩))).setCell ⟨b + 1, 1, none⟩ (.int .i64 ax)).setCell ⟨b + 1, 2, none⟩ (.int .i64 ay)).setCell ⟨b + 1, 3, none⟩ (.int .i64 s)).setCell ⟨b + 1, 4, none⟩ (.int .i64 al)).setCell ⟨b + 1, 5, none⟩ (.int .i64 cp.a)).setCell ⟨b + 1, 6, none⟩ (.int .i64 cp.b)).setCell ⟨b + 1, 7, none⟩ (.int .i64 cp.c)).setCell ⟨b + 1, 8, none⟩ (.int .i64 cp.d)) = V5 at *
  simp at R5
  have d0 : V5.cell? ⟨b + 1, 0, none⟩ = some (.pointer (some ⟨pm, 0, none⟩)) := R5.cell 0
  have d1 : V5.cell? ⟨b + 1, 1, none⟩ = some (.int .i64 ax) := R5.cell 1
  have d2 : V5.cell? ⟨b + 1, 2, none⟩ = some (.int .i64 ay) := R5.cell 2
  have d3 : V5.cell? ⟨b + 1, 3, none⟩ = some (.int .i64 s) := R5.cell 3
  have d4 : V5.cell? ⟨b + 1, 4, none⟩ = some (.int .i64 al) := R5.cell 4
  have d5 : V5.cell? ⟨b + 1, 5, none⟩ = some (.int .i64 cp.a) := R5.cell 5
  have d6 : V5.cell? ⟨b + 1, 6, none⟩ = some (.int .i64 cp.b) := R5.cell 6
  have d7 : V5.cell? ⟨b + 1, 7, none⟩ = some (.int .i64 cp.c) := R5.cell 7
  have d8 : V5.cell? ⟨b + 1, 8, none⟩ = some (.int .i64 cp.d) := R5.cell 8
  exact bodyPost_ret (v := .agg #[.pointer (some ⟨pm, 0, none⟩), .int .i64 ax, .int .i64 ay, .int .i64 s, .int .i64 al, .int .i64 cp.a, .int .i64 cp.b, .int .i64 cp.c, .int .i64 cp.d]) (by simp [results, Tryz.results54, go_sem, d0, d1, d2, d3, d4, d5, d6, d7, d8]) rfl ⟨pm, pc, rfl, I5, by omega, by omega, G5⟩

end Go.Proofs.YtablogiielclaaaGreat
namespace Go.Proofs.YtablogiielclaaaGreat
open Go.RowKit Go.Sort Go.Deep

theorem scale_box {W H : Nat} {s : Int} (hW : W ≤ 256) (hH : H ≤ 256) (h1 : 1 ≤ s) (h8 : s ≤ 8) (a b c d : Int) (ha : 0 ≤ a) (hac : a ≤ c) (hc : c ≤ W) (hb : 0 ≤ b) (hbd : b ≤ d) (hd : d ≤ H) :
    scaleE a b c d s = 0 ∧ scaleR a b c d s = ⟨s * a, s * b, s * c, s * d⟩ ∧ 0 ≤ s * a ∧ s * a ≤ s * c ∧ s * c ≤ W * s ∧ 0 ≤ s * b ∧ s * b ≤ s * d ∧ s * d ≤ H * s ∧ W * s ≤ 2048 ∧ H * s ≤ 2048 := by
  have m1 := Int.mul_nonneg (show 0 ≤ s by omega) ha
  have m2 := Int.mul_le_mul_of_nonneg_left hac (show 0 ≤ s by omega)
  have m3 := Int.mul_le_mul_of_nonneg_left hc (show 0 ≤ s by omega)
  have m4 := Int.mul_nonneg (show 0 ≤ s by omega) hb
  have m5 := Int.mul_le_mul_of_nonneg_left hbd (show 0 ≤ s by omega)
  have m6 := Int.mul_le_mul_of_nonneg_left hd (show 0 ≤ s by omega)
  obtain ⟨p1, p2⟩ := mul_bd hW h1 h8
  obtain ⟨p3, p4⟩ := mul_bd hH h1 h8
  rw [Int.mul_comm s (W : Int)] at m3
  rw [Int.mul_comm s (H : Int)] at m6
  have hB : scaleB a b c d s = true := by
    unfold scaleB mayB
    simp only [Bool.and_eq_true, decide_eq_true_eq]
    omega
  have hn : ¬ (s < 1 ∨ 8 < s) := by omega
  refine ⟨?_, ?_, m1, m2, m3, m4, m5, m6, p2, p4⟩
  · unfold scaleE; rw [if_neg hn, if_pos hB]
  · unfold scaleR; rw [if_neg hn, if_pos hB]

theorem pmay1X {pm pc W H : Nat} {L : List Int} {Sp : List Value} (ax ay s al : Int) (cp : Rc) (w : World) (hI : ImgX w pm pc W H L Sp) (hs : I64 s) (hax : I64 ax) (hay : I64 ay) :
    Calls Tryz.prog 83 #[.agg #[.pointer (some ⟨pm, 0, none⟩), .int .i64 ax, .int .i64 ay, .int .i64 s, .int .i64 al, .int .i64 cp.a, .int .i64 cp.b, .int .i64 cp.c, .int .i64 cp.d]] w (Rt w (.bool (lyMay W H s al ax ay))) := by
  have w2 := hI.w2
  have h2 := hI.h2
  by_cases ha : 0 ≤ al ∧ al ≤ 255
  · by_cases h1 : 1 ≤ s ∧ s ≤ 8
    · obtain ⟨e1, e2, b1, b2, b3, b4, b5, b6, b7, b8⟩ := scale_box w2 h2 h1.1 h1.2 0 0 W H (by omega) (by omega) (by omega) (by omega) (by omega) (by omega)
      have := pmayBX ax ay s al cp w hI ha.1 ha.2 _ _ _ _ _ (fun w => onc1 (some ⟨pm, 0, none⟩) ax ay s al cp 0 0 W H _ _ _ _ w hs hax hay e1 e2 (by unfold Bd; omega) (by unfold Bd; omega) (by unfold Bd; omega) (by unfold Bd; omega))
      have hz : (moveE (s * 0) (s * 0) (s * W) (s * H) ax ay == 0) = lyMay W H s al ax ay := by
        unfold moveE moveB mayB lyMay inB
        rw [Int.mul_comm s (W : Int), Int.mul_comm s (H : Int), Int.mul_zero]
        generalize (W : Int) * s = p at *
        generalize (H : Int) * s = r at *
        rw [Bool.eq_iff_iff]
        simp only [beq_iff_eq, decide_eq_true_eq, Bool.and_eq_true]
        split
        · rename_i h; simp only [true_iff]; omega
        · rename_i h; simp only [show ¬ (4 : Int) = 0 by omega, false_iff]; omega
      rw [hz] at this
      exact this
    · have he : scaleE 0 0 W H s = 1 := by unfold scaleE; rw [if_pos (by omega)]
      have := pmayBX ax ay s al cp w hI ha.1 ha.2 _ _ _ _ _ (fun w => oncN (some ⟨pm, 0, none⟩) ax ay s al cp 0 0 W H 1 w hs he (.inl rfl))
      have hz : lyMay W H s al ax ay = false := by unfold lyMay; rw [decide_eq_false_iff_not]; omega
      rw [hz]
      exact this
  · have hz : lyMay W H s al ax ay = false := by unfold lyMay; rw [decide_eq_false_iff_not]; omega
    rw [hz]
    exact pmayA pm ax ay s al cp w (by omega)
theorem pmay1 {pm pc W H : Nat} {L : List Int} (ax ay s al : Int) (cp : Rc) (w : World) (hI : Img w pm pc W H L) (hs : I64 s) (hax : I64 ax) (hay : I64 ay) :
    Calls Tryz.prog 83 #[.agg #[.pointer (some ⟨pm, 0, none⟩), .int .i64 ax, .int .i64 ay, .int .i64 s, .int .i64 al, .int .i64 cp.a, .int .i64 cp.b, .int .i64 cp.c, .int .i64 cp.d]] w (Rt w (.bool (lyMay W H s al ax ay))) :=
  pmay1X ax ay s al cp w hI.x hs hax hay

theorem lmay_bd {W H : Nat} {s al ax ay : Int} (h : lyMay W H s al ax ay = true) : 1 ≤ s ∧ s ≤ 8 ∧ 0 ≤ al ∧ al ≤ 255 ∧ -1048576 ≤ ax ∧ ax ≤ 1048576 ∧ -1048576 ≤ ay ∧ ay ≤ 1048576 ∧ ax + W * s ≤ 1048576 ∧ ay + H * s ≤ 1048576 := by
  unfold lyMay inB at h
  simp only [decide_eq_true_eq] at h
  omega
theorem pclip1X {pm pc W H : Nat} {L : List Int} {Sp : List Value} (ax ay s al : Int) (cp : Rc) (w : World) (hI : ImgX w pm pc W H L Sp) (hM : lyMay W H s al ax ay = true) :
    Calls Tryz.prog 131 #[.agg #[.pointer (some ⟨pm, 0, none⟩), .int .i64 ax, .int .i64 ay, .int .i64 s, .int .i64 al, .int .i64 cp.a, .int .i64 cp.b, .int .i64 cp.c, .int .i64 cp.d]] w (Rt w (.agg #[.int .i64 (ownR cp W H).a, .int .i64 (ownR cp W H).b, .int .i64 (ownR cp W H).c, .int .i64 (ownR cp W H).d])) := by
  obtain ⟨h1, h2, h3, h4, h5, h6, h7, h8, _⟩ := lmay_bd hM
  refine pclipBX ax ay s al cp w hI _ _ _ _ rfl (fun w' g => ?_)
  have := pmay1X ax ay s al cp w' (hI.gr g) (by unfold I64; omega) (by unfold I64; omega) (by unfold I64; omega)
  rwa [hM] at this
theorem pclip1 {pm pc W H : Nat} {L : List Int} (ax ay s al : Int) (cp : Rc) (w : World) (hI : Img w pm pc W H L) (hM : lyMay W H s al ax ay = true) :
    Calls Tryz.prog 131 #[.agg #[.pointer (some ⟨pm, 0, none⟩), .int .i64 ax, .int .i64 ay, .int .i64 s, .int .i64 al, .int .i64 cp.a, .int .i64 cp.b, .int .i64 cp.c, .int .i64 cp.d]] w (Rt w (.agg #[.int .i64 (ownR cp W H).a, .int .i64 (ownR cp W H).b, .int .i64 (ownR cp W H).c, .int .i64 (ownR cp W H).d])) :=
  pclip1X ax ay s al cp w hI.x hM
theorem pbox1X {pm pc W H : Nat} {L : List Int} {Sp : List Value} (ax ay s al : Int) (cp : Rc) (w : World) (hI : ImgX w pm pc W H L Sp) (hM : lyMay W H s al ax ay = true) :
    Calls Tryz.prog 94 #[.agg #[.pointer (some ⟨pm, 0, none⟩), .int .i64 ax, .int .i64 ay, .int .i64 s, .int .i64 al, .int .i64 cp.a, .int .i64 cp.b, .int .i64 cp.c, .int .i64 cp.d]] w (Rt w (.agg #[.int .i64 (lyBox cp W H s ax ay).a, .int .i64 (lyBox cp W H s ax ay).b, .int .i64 (lyBox cp W H s ax ay).c, .int .i64 (lyBox cp W H s ax ay).d])) := by
  obtain ⟨h1, h2, h3, h4, h5, h6, h7, h8, h9, h10⟩ := lmay_bd hM
  have cC := fun w' (g : Gr w w') => pclip1X ax ay s al cp w' (hI.gr g) hM
  have w2 := hI.w2
  have hh2 := hI.h2
  obtain ⟨o1, o2, o3, o4, o5, o6⟩ := ownR_bd cp W H
  unfold lyBox lyE
  generalize ownR cp W H = q at *
  obtain ⟨q1, q2, q3, q4⟩ := q
  dsimp only at *
  by_cases e : emptyB q1 q2 q3 q4 = true
  · rw [if_pos e]
    exact pboxE _ ax ay s al cp w q1 q2 q3 q4 e cC
  · rw [if_neg e]
    simp only [Bool.not_eq_true] at e
    obtain ⟨e1, e2, b1, b2, b3, b4, b5, b6, b7, b8⟩ := scale_box w2 hh2 h1 h2 q1 q2 q3 q4 o1 o2 o3 o4 o5 o6
    have hmv : moveB (s * q1) (s * q2) (s * q3) (s * q4) ax ay = true := by
      unfold moveB mayB
      simp only [Bool.and_eq_true, decide_eq_true_eq]
      omega
    have := pboxB (some ⟨pm, 0, none⟩) ax ay s al cp w q1 q2 q3 q4 _ _ _ _ _ e cC (fun w' => onc1 _ ax ay s al cp q1 q2 q3 q4 _ _ _ _ w' (by unfold I64; omega) (by unfold I64; omega) (by unfold I64; omega) e1 e2 (by unfold Bd; omega) (by unfold Bd; omega) (by unfold Bd; omega) (by unfold Bd; omega))
    obtain ⟨m1, m2, m3, m4, m5⟩ := moveR_t hmv
    rw [m1, m2, m3, m4] at this
    rw [show ax + q1 * s = s * q1 + ax from by rw [Int.mul_comm, Int.add_comm], show ay + q2 * s = s * q2 + ay from by rw [Int.mul_comm, Int.add_comm], show ax + q3 * s = s * q3 + ax from by rw [Int.mul_comm, Int.add_comm], show ay + q4 * s = s * q4 + ay from by rw [Int.mul_comm, Int.add_comm]]
    exact this
theorem pbox1 {pm pc W H : Nat} {L : List Int} (ax ay s al : Int) (cp : Rc) (w : World) (hI : Img w pm pc W H L) (hM : lyMay W H s al ax ay = true) :
    Calls Tryz.prog 94 #[.agg #[.pointer (some ⟨pm, 0, none⟩), .int .i64 ax, .int .i64 ay, .int .i64 s, .int .i64 al, .int .i64 cp.a, .int .i64 cp.b, .int .i64 cp.c, .int .i64 cp.d]] w (Rt w (.agg #[.int .i64 (lyBox cp W H s ax ay).a, .int .i64 (lyBox cp W H s ax ay).b, .int .i64 (lyBox cp W H s ax ay).c, .int .i64 (lyBox cp W H s ax ay).d])) :=
  pbox1X ax ay s al cp w hI.x hM

end Go.Proofs.YtablogiielclaaaGreat
namespace Go.Proofs.YtablogiielclaaaGreat
open Go.RowKit Go.Sort Go.Shelf

attribute [local go_sem] Oper.semAt_some

theorem points1 (A : Option Addr) (n c : Nat) (w : World) : Calls Tryz.prog 133 #[.slice A n c] w fun e w' => e = .returned (.func (.func 193) #[] #[.pointer (some ⟨w.heap.size, 0, none⟩)]) ∧ w' = w.alloc (.cells #[.slice A n c] 32) := by
  go_enter Tryz.func133, Tryz.ntmps133
  go_wp2
  go_ret
  exact ⟨rfl, rfl⟩

theorem ptr_ne {a b : Nat} {ca cb : Array Value} {ta tb : TypeId} {w : World} (ha : At w a ca ta) (hb : At w b cb tb) (hne : a ≠ b) :
    (binOp .eql 58 (.pointer (some ⟨a, 0, none⟩)) (.pointer (some ⟨b, 0, none⟩))).run Tryz.prog w = .ok (.bool false) w := by
  obtain ⟨j, hj, hjs⟩ := Option.map_eq_some_iff.1 (show (Tryz.prog.info? 173).map (·.size) = some 3 by kernel_rfl)
  have hs : (sameAddr ⟨a, 0, none⟩ ⟨b, 0, none⟩).run Tryz.prog w = .ok false w := run_sameAddr_other w (by intro e; injection e with e1 _; exact hne e1) ha hb
  have h : ∀ d : Nat, (Op.equalIn (d + 1) 58 (.pointer (some ⟨a, 0, none⟩)) (.pointer (some ⟨b, 0, none⟩))).run Tryz.prog w = .ok false w := fun d => by
    simp [Op.equalIn, run_underlying Tryz.underlying58, sizeOf, typeInfo, hj, hjs, hs]
  simp only [binOp]
  simp [Op.equal, Op.maxDepth, h 9999]

/-- Rows of a call's own, where what it has laid lies as it lay. -/
theorem OwR.still {w wr : World} {B : Nat} {A : Option Addr} {c : Nat} {R : List Rc} (h : OwR w B A c R) (hk : ∀ k cs t, B ≤ k → At w k cs t → At wr k cs t) : Rs wr A R := by
  have h' : OwR wr B A c R := by
    refine ⟨h.1, ?_⟩
    rcases h.2 with hn | ⟨g, cap, cur, h1, h2, h3, h4⟩
    · exact .inl hn
    · exact .inr ⟨g, cap, cur, h1, h2, hk g cur _ h2 h3, h4⟩
  exact h'.rs
theorem KeepC.by {Pr : Nat → Prop} {A B : World} {r : Nat} (g : A.grownBy B (some r)) (hr : Pr r) : KeepC Pr A B := ⟨g.size, fun _ _ _ hk ha => ha.kept g (fun e => by cases e; exact hk hr)⟩
theorem KeepC.set {Pr : Nat → Prop} (A : World) (r i : Nat) (u : Value) (hr : Pr r) : KeepC Pr A (A.setCell ⟨r, i, none⟩ u) := KeepC.by (by_set (p := ⟨r, i, none⟩) (by_refl A (some r)) u) hr

theorem pointsStops (n : Nat) (hn : 1 ≤ n) (bq tq B : Nat) (Pr : Nat → Prop) (A : Option Addr) (c : Nat) (R : List Rc)
    (hb : ∀ r ∈ R, -1000000 ≤ r.a ∧ r.c ≤ 1000000 ∧ -1000000 ≤ r.b ∧ r.d ≤ 1000000 ∧ r.a ≤ 1000000 ∧ r.b ≤ 1000000) (hlen : R.length ≤ 100000000)
    (V : World) (hq : At V bq #[.slice A R.length c] tq) (hPr : ∀ k, Pr k → k < V.heap.size) (hPB : ∀ k, B ≤ k → ¬ Pr k) (hRow : OwR V B A c R) :
    SeqStopsK Fence.wide n Tryz.prog 193 #[.pointer (some ⟨bq, 0, none⟩)] (ptV (R := R)) (KeepC Pr)
      (fun ys => ys.map (·.1) = ptsL R) (fun pre => pre.map (·.1) <+: ptsL R) (ptsL R).length V := fun l J Jx W' hW' hJ _ hY h0 => by
  have gW : Bl V W' := hW'
  exact pointsIter n hn l bq tq Pr A c R J Jx hb hlen (fun pre A B h hg => hJ pre A B none h hg (fun r e => by cases e)) hY W' (hq.bl gW) (fun k hk => Nat.lt_of_lt_of_le (hPr k hk) gW.size)
    (fun wr hK => (hRow.bl gW).still (fun k cs t hk ha => hK.2 k cs t (hPB k hk) ha)) h0

end Go.Proofs.YtablogiielclaaaGreat
namespace Go.Proofs.YtablogiielclaaaGreat
open Go.RowKit Go.Sort Go.Deep

/-- Colors, one over the other. -/
def pixL (c : Int) (L : List Int) : Int := L.foldl (fun x d => ov d x) c
theorem pixL_more {c : Int} {L : List Int} {k : Nat} {d : Int} (h : L[k]? = some d) : pixL c (L.take (k + 1)) = ov d (pixL c (L.take k)) := by
  rw [List.take_add_one, h]; simp [pixL]
theorem Ns.gr {k : IntKind} {w w' : World} {A : Option Addr} {L : List Int} (h : Ns k w A L) (g : Gr w w') : Ns k w' A L := h.bl g.bl
theorem Ns.opened {k : IntKind} {w : World} {A : Option Addr} {L : List Int} (h : Ns k w A L) (hn : 0 < L.length) : ∃ b off, A = some ⟨b, off, none⟩ ∧ RowN k w b off L := by
  rcases h with h | h
  · subst h; simp at hn
  · exact h

set_option maxHeartbeats 2000000 in
theorem pix1 (c : Int) (A : Option Addr) (cap : Nat) (L : List Int) (w : World) (hA : Ns .u32 w A L) (hl : L.length ≤ 1000000) (hc : C32 c) (h32 : ∀ d ∈ L, C32 d) :
    Calls Tryz.prog 134 #[.int .u32 c, .slice A L.length cap] w (Rt w (.int .u32 (pixL c L))) := by
  obtain ⟨n, hn⟩ : ∃ n, n = L.length := ⟨_, rfl⟩
  rw [← hn] at hl ⊢
  replace hn := Lib.hid hn
  have H32 := Lib.hid h32
  clear h32
  go_enter Tryz.func134, Tryz.ntmps134
  go_wp2
  go_loopw [0, 9] (fun v i wr => ∃ (k : Nat) (x : Int), k ≤ n ∧ v = .int .u32 x ∧ i = .int .i64 k ∧ Hid (x = pixL c (L.take k)) ∧ C32 x ∧ Gr w wr) (fun _ i _ => n - (intOf i).toNat)
  case atStart => exact ⟨0, c, Nat.zero_le _, rfl, rfl, Lib.hid rfl, hc, Gr.refl w⟩
  case round =>
    obtain ⟨k, x, hk, rfl, rfl, hX, hx, G⟩ := hrel
    by_cases hlt : k < n
    · obtain ⟨d, hd⟩ := list_at (show k < L.length by rw [← hn.out]; exact hlt)
      obtain ⟨b, off, rfl, hrow⟩ := hA.opened (by have := hn.out; omega)
      have e1 := (hrow.gr G) k _ hd
      have hd32 := H32.out d (get_of hd).1
      have c1 := fun w => over1 d x w hd32 hx
      have hX' : Hid (ov d x = pixL c (L.take (k + 1))) := Lib.hid (by rw [pixL_more hd, hX.out])
      clear hd
      go_wp2_with fail
      refine (c1 _).mono ?_
      rintro e W1 ⟨rfl, g1⟩
      clear e1
      go_wp2
      go_roundw
      case rel => exact ⟨k + 1, ov d x, by omega, rfl, by go_num, hX', ov_c32 _ _, G.trans g1⟩
      case measure => simp [intOf]; omega
    · obtain rfl : k = n := by omega
      go_wp2
      go_ret
      exact ⟨by rw [hX.out, hn.out, List.take_length]; rfl, G⟩

end Go.Proofs.YtablogiielclaaaGreat
