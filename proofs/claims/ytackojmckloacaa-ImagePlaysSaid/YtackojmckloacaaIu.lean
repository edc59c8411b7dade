/-
  What is proved: what Put, Set and Same of the document's images hand back. No conditions but bounds.
-/
import Derived.Test.YtackojmckloacaaIz
import Derived.Test.YtackojmckloacaaIq
namespace Go.Proofs.Ytackojmckloacaa
open Go.RowKit Go.Sort Go.Deep

theorem row_set {w : World} {g k : Nat} {L : List Int} {X : List Value} {t : TypeId} {q : Int} (C : At w g ((L.map (Value.int .u32) ++ X).toArray.setIfInBounds k (.int .u32 q)) t) (hk : k < L.length) : RowN .u32 w g 0 (L.set k q) := by
  have hm : (L.set k q).map (Value.int .u32) ++ X = (L.map (Value.int .u32) ++ X).set k (.int .u32 q) := by
    rw [List.set_append_left _ _ (by simpa using hk), List.map_set]
  rw [List.setIfInBounds_toArray, ← hm] at C
  intro i x hi
  have hl : i < (L.set k q).length := (get_of hi).2
  rw [Nat.zero_add, C.cell i, List.getElem?_toArray, List.getElem?_append_left (by simpa using hl), List.getElem?_map, hi]; rfl
theorem own_low {k : IntKind} {e : TypeId} {w : World} {B g c : Nat} {L : List Int} (h : OwN k e w B (some ⟨g, 0, none⟩) c L) : B ≤ g := by
  rcases h.addr with ⟨h, _⟩ | ⟨g', h, h3, _⟩
  · cases h
  · injection h with h; injection h with h; omega
theorem cell_at {w : World} {g k : Nat} {L : List Int} {X : List Value} {t : TypeId} (C : At w g (L.map (Value.int .u32) ++ X).toArray t) (hk : k < L.length) : ∃ old, w.cell? ⟨g, k, none⟩ = some (.int .u32 old) :=
  ⟨L[k], by rw [C.cell k, List.getElem?_toArray, List.getElem?_append_left (by simpa using hk), List.getElem?_map, List.getElem?_eq_getElem hk]; rfl⟩

set_option maxRecDepth 100000 in
set_option maxHeartbeats 4000000 in
theorem rput1 {W H b c : Nat} {L : List Int} (w : World) (hR : RowN .u32 w b 0 L) (hl : L.length = W * H) (w1 : 1 ≤ W) (w2 : W ≤ 256) (h2 : H ≤ 256) (i j : Nat) (hi : i < W) (hj : j < H) (q : Int) :
    Calls Try.prog 22 #[.agg #[.int .i64 W, .int .i64 H, .slice (some ⟨b, 0, none⟩) L.length c], .int .i64 i, .int .i64 j, .int .u32 q] w
      (fun e w' => ∃ b' c', e = .returned (.agg #[.int .i64 W, .int .i64 H, .slice (some ⟨b', 0, none⟩) L.length c']) ∧ RowN .u32 w' b' 0 (L.set (j * W + i) q) ∧ w.heap.size ≤ b' ∧ Bl w w') := by
  have hk := row_of hi hj
  have hle := area_le w2 h2
  rw [← hl] at hk hle
  obtain ⟨x, hx⟩ : ∃ x, L[j * W + i]? = some x := ⟨L[j * W + i], List.getElem?_eq_getElem hk⟩
  have cA := fun (w' : World) (g : Gr w w') => refAt1 (c := c) w' (hR.gr g) hl w2 h2 i j hi hj x hx
  have hn1 : 0 < L.length := by omega
  have HQ : Hid (wrap64 ((j : Int) * (W : Int)) = ((j * W : Nat) : Int) ∧ wrap64 (((j * W : Nat) : Int) + (i : Int)) = ((j * W + i : Nat) : Int) ∧ IntKind.i64.wrap ((j : Int) * (W : Int)) = ((j * W : Nat) : Int) ∧ IntKind.i64.wrap (((j * W : Nat) : Int) + (i : Int)) = ((j * W + i : Nat) : Int)) := Lib.hid ⟨by rw [← Int.natCast_mul]; exact w64 (by omega) (by omega), by rw [← Int.natCast_add]; exact w64 (by omega) (by omega), by rw [← Int.natCast_mul]; exact IntWalk.i64_in _ (by omega), by rw [← Int.natCast_add]; exact IntWalk.i64_in _ (by omega)⟩
  clear hx
  obtain ⟨k, hkk⟩ : ∃ k, k = j * W + i := ⟨_, rfl⟩
  rw [← hkk] at hk HQ ⊢
  clear hkk
  generalize j * W = p at *
  have hb : b < w.heap.size := World.block_lt_of_cell? w _ (hR k L[k] (List.getElem?_eq_getElem hk))
  have G0 := ((Gr.refl w).alloc (.cells #[.int .i64 W, .int .i64 H, .slice (some ⟨b, 0, none⟩) L.length c] 25)).alloc (.cells #[.int .i64 0, .int .i64 0, .slice none 0 0] 25)
  have B0 := (At.new w #[.int .i64 W, .int .i64 H, .slice (some ⟨b, 0, none⟩) L.length c] 25).alloc (.cells #[.int .i64 0, .int .i64 0, .slice none 0 0] 25)
  have R0 := At.newAt (w := w.alloc (.cells #[.int .i64 W, .int .i64 H, .slice (some ⟨b, 0, none⟩) L.length c] 25)) (n := w.heap.size + 1) (by simp) #[.int .i64 0, .int .i64 0, .slice none 0 0] 25
  clear hl
  go_enter Try.func22, Try.ntmps22
  go_wp2_with fail
  refine (cA _ G0).mono ?_
  rintro e v1 ⟨rfl, g1⟩
  replace B0 := B0.gr g1
  replace R0 := R0.gr g1
  replace G0 := G0.trans g1
  obtain ⟨m0, m1, m2⟩ := cells3 B0
  have hb0 := B0.lt
  have hr0 := R0.lt
  clear g1 cA
  go_wp2_with (at_builtin; refine wp_app_n (bs := 4) Try.underlying22 infoC rfl (by decide) rfl (.tmp 22) (.tmp 24) rfl none 0 [] rfl v1.heap.size (OwN.nil _ _ _ _) b 0 L c rfl (hR.gr G0) hn1 (by simp; omega) (Nat.le_refl _) ?_; rintro A5 c5 w3 own5 ap5 ⟨g, rfl⟩; obtain ⟨X, hc5, C5⟩ := row_at (show OwN .u32 30 w3 v1.heap.size (some ⟨g, 0, none⟩) c5 L by simpa using own5); have hg1 : v1.heap.size ≤ g := own_low own5; have B3 := B0.kept ap5 (by simp); have R3 := R0.kept ap5 (by simp); have G3 := ApdN.bl ap5 G0.bl (OwN.nil .u32 30 v1 v1.heap.size) G0.size; have hg2 : ¬ w.heap.size = g := (by omega); have hg3 : ¬ w.heap.size + 1 = g := (by omega); have hgw : w.heap.size ≤ g := (by omega); have C6 := C5.put k (.int .u32 q); have B4 := B3.far (p := ⟨g, k, none⟩) hg2 (.int .u32 q); have R4 := R3.far (p := ⟨g, k, none⟩) hg3 (.int .u32 q); have G4 := G3.setCell (p := ⟨g, k, none⟩) hgw (.int .u32 q); have m0 : w3.cell? ⟨w.heap.size, 0, none⟩ = some (.int .i64 W) := B3.cell 0; have m2 : (w3.setCell ⟨g, k, none⟩ (.int .u32 q)).cell? ⟨w.heap.size, 2, none⟩ = some (.slice (some ⟨b, 0, none⟩) L.length c) := B4.cell 2; have m3 := B4.free 2; have B5 := B4.put 2 (.slice (some ⟨g, 0, none⟩) L.length c5); have R5 := R4.far (p := ⟨w.heap.size, 2, none⟩) (by simp) (.slice (some ⟨g, 0, none⟩) L.length c5); have C7 := C6.far (p := ⟨w.heap.size, 2, none⟩) (Ne.symm hg2) (.slice (some ⟨g, 0, none⟩) L.length c5); have G5 := G4.setCell (p := ⟨w.heap.size, 2, none⟩) (Nat.le_refl _) (.slice (some ⟨g, 0, none⟩) L.length c5); simp at B5; have y0 : ((w3.setCell ⟨g, k, none⟩ (.int .u32 q)).setCell ⟨w.heap.size, 2, none⟩ (.slice (some ⟨g, 0, none⟩) L.length c5)).cell? ⟨w.heap.size, 0, none⟩ = some (.int .i64 W) := B5.cell 0; have y1 : ((w3.setCell ⟨g, k, none⟩ (.int .u32 q)).setCell ⟨w.heap.size, 2, none⟩ (.slice (some ⟨g, 0, none⟩) L.length c5)).cell? ⟨w.heap.size, 1, none⟩ = some (.int .i64 H) := B5.cell 1; have y2 : ((w3.setCell ⟨g, k, none⟩ (.int .u32 q)).setCell ⟨w.heap.size, 2, none⟩ (.slice (some ⟨g, 0, none⟩) L.length c5)).cell? ⟨w.heap.size, 2, none⟩ = some (.slice (some ⟨g, 0, none⟩) L.length c5) := B5.cell 2; have z0 : ((w3.setCell ⟨g, k, none⟩ (.int .u32 q)).setCell ⟨w.heap.size, 2, none⟩ (.slice (some ⟨g, 0, none⟩) L.length c5)).cell? ⟨w.heap.size + 1, 0, none⟩ = some (.int .i64 0) := R5.cell 0; have z1 : ((w3.setCell ⟨g, k, none⟩ (.int .u32 q)).setCell ⟨w.heap.size, 2, none⟩ (.slice (some ⟨g, 0, none⟩) L.length c5)).cell? ⟨w.heap.size + 1, 1, none⟩ = some (.int .i64 0) := R5.cell 1; have z2 : ((w3.setCell ⟨g, k, none⟩ (.int .u32 q)).setCell ⟨w.heap.size, 2, none⟩ (.slice (some ⟨g, 0, none⟩) L.length c5)).cell? ⟨w.heap.size + 1, 2, none⟩ = some (.slice none 0 0) := R5.cell 2; have z3 := R5.free 0; have z4 := R5.free 1; have z5 := R5.free 2; have f1 := C5.free k; obtain ⟨old, c1⟩ := cell_at C5 hk; obtain ⟨q1, q2, e1, e2⟩ := HQ.out; clear own5 ap5 m1 hc5 B0 R0 B3 R3 B4 R4 B5 C5 C6 G3 G4)
  clear q1 q2 e1 e2 y0 y1 y2 z0 z1 z2 z3 z4 z5 f1 c1 m0 m2 m3
  have k3 := R5.put3 (.int .i64 W) (.int .i64 H) (.slice (some ⟨g, 0, none⟩) L.length c5)
  have G6 := G5.put3 (k := w.heap.size + 1) (by omega) (.int .i64 W) (.int .i64 H) (.slice (some ⟨g, 0, none⟩) L.length c5)
  have C8 := ((C7.far (p := ⟨w.heap.size + 1, 0, none⟩) (Ne.symm hg3) (.int .i64 W)).far (p := ⟨w.heap.size + 1, 1, none⟩) (Ne.symm hg3) (.int .i64 H)).far (p := ⟨w.heap.size + 1, 2, none⟩) (Ne.symm hg3) (.slice (some ⟨g, 0, none⟩) L.length c5)
  generalize ((((w3.setCell ⟨g, k, none⟩ (.int .u32 q)).setCell ⟨w.heap.size, 2, none⟩ (.slice (some ⟨g, 0, none⟩) L.length c5)).setCell ⟨w.heap.size + 1, 0, none⟩ (.int .i64 W)).setCell ⟨w.heap.size + 1, 1, none⟩ (.int .i64 H)).setCell ⟨w.heap.size + 1, 2, none⟩ (.slice (some ⟨g, 0, none⟩) L.length c5) = V at *
  obtain ⟨d0, d1, d2⟩ := cells3 k3
  exact bodyPost_ret (v := .agg #[.int .i64 W, .int .i64 H, .slice (some ⟨g, 0, none⟩) L.length c5]) (by simp [results, Try.results22, go_sem, d0, d1, d2]) rfl ⟨g, c5, rfl, row_set C8 hk, hgw, G6⟩

/-- What Set of the document does: the list behind, and the error. -/
def setL (L : List Int) (k : Nat) (q : Int) : List Int := if mayC q = true then L.set k q else L
def setE (q : Int) : Int := if mayC q = true then 0 else 1

set_option maxRecDepth 100000 in
set_option maxHeartbeats 4000000 in
theorem rset1 {W H b c : Nat} {L : List Int} (w : World) (hR : RowN .u32 w b 0 L) (hl : L.length = W * H) (w1 : 1 ≤ W) (w2 : W ≤ 256) (h2 : H ≤ 256) (i j : Nat) (hi : i < W) (hj : j < H) (q : Int) (hq : C32 q) :
    Calls Try.prog 6 #[.agg #[.int .i64 W, .int .i64 H, .slice (some ⟨b, 0, none⟩) L.length c], .int .i64 i, .int .i64 j, .int .u32 q] w
      (fun e w' => ∃ b' c', e = .returned (.tuple #[.agg #[.int .i64 W, .int .i64 H, .slice (some ⟨b', 0, none⟩) L.length c'], .int .i64 (setE q)]) ∧ RowN .u32 w' b' 0 (setL L (j * W + i) q) ∧ (b' = b ∨ w.heap.size ≤ b') ∧ Bl w w') := by
  have hk := row_of hi hj
  rw [← hl] at hk
  obtain ⟨x, hx⟩ : ∃ x, L[j * W + i]? = some x := ⟨L[j * W + i], List.getElem?_eq_getElem hk⟩
  have cA := fun (w' : World) (g : Gr w w') => refAt1 (c := c) w' (hR.gr g) hl w2 h2 i j hi hj x hx
  have cP := fun (w' : World) (g : Gr w w') => rput1 (c := c) w' (hR.gr g) hl w1 w2 h2 i j hi hj q
  have cM := fun w => refcmay1 q w hq
  have G0 := ((Gr.refl w).alloc (.cells #[.int .i64 W, .int .i64 H, .slice (some ⟨b, 0, none⟩) L.length c] 25)).alloc (.cells #[.int .i64 0, .int .i64 0, .slice none 0 0] 25)
  have B0 := (At.new w #[.int .i64 W, .int .i64 H, .slice (some ⟨b, 0, none⟩) L.length c] 25).alloc (.cells #[.int .i64 0, .int .i64 0, .slice none 0 0] 25)
  have R0 := At.newAt (w := w.alloc (.cells #[.int .i64 W, .int .i64 H, .slice (some ⟨b, 0, none⟩) L.length c] 25)) (n := w.heap.size + 1) (by simp) #[.int .i64 0, .int .i64 0, .slice none 0 0] 25
  unfold setL setE
  generalize L.set (j * W + i) q = L2 at *
  clear hx hk hl hi hj
  cases hm : mayC q
  · rw [hm] at cM
    rw [if_neg (by simp), if_neg (by simp)]
    clear hm cP
    go_enter Try.func6, Try.ntmps6
    go_wp2_with fail
    refine (cA _ G0).mono ?_
    rintro e v1 ⟨rfl, g1⟩
    replace B0 := B0.gr g1
    replace R0 := R0.gr g1
    replace G0 := G0.trans g1
    clear g1
    go_wp2_with fail
    refine (cM _).mono ?_
    rintro e v2 ⟨rfl, g2⟩
    replace B0 := B0.gr g2
    replace R0 := R0.gr g2
    replace G0 := G0.trans g2
    clear g2
    obtain ⟨m0, m1, m2⟩ := cells3 B0
    obtain ⟨z0, z1, z2⟩ := cells3 R0
    have z3 := R0.free 0
    have z4 := R0.free 1
    have z5 := R0.free 2
    go_wp2
    have k3 := R0.put3 (.int .i64 W) (.int .i64 H) (.slice (some ⟨b, 0, none⟩) L.length c)
    have G6 := G0.put3 (k := w.heap.size + 1) (by omega) (.int .i64 W) (.int .i64 H) (.slice (some ⟨b, 0, none⟩) L.length c)
    clear m0 m1 m2 z0 z1 z2 z3 z4 z5
    generalize ((v2.setCell ⟨w.heap.size + 1, 0, none⟩ (.int .i64 W)).setCell ⟨w.heap.size + 1, 1, none⟩ (.int .i64 H)).setCell ⟨w.heap.size + 1, 2, none⟩ (.slice (some ⟨b, 0, none⟩) L.length c) = V at *
    obtain ⟨d0, d1, d2⟩ := cells3 k3
    exact bodyPost_ret (v := .tuple #[.agg #[.int .i64 W, .int .i64 H, .slice (some ⟨b, 0, none⟩) L.length c], .int .i64 1]) (by simp [results, Try.results6, go_sem, d0, d1, d2]) rfl ⟨b, c, rfl, hR.gr G6, .inl rfl, G6.bl⟩
  · rw [hm] at cM
    rw [if_pos rfl, if_pos rfl]
    clear hm
    go_enter Try.func6, Try.ntmps6
    go_wp2_with fail
    refine (cA _ G0).mono ?_
    rintro e v1 ⟨rfl, g1⟩
    replace B0 := B0.gr g1
    replace R0 := R0.gr g1
    replace G0 := G0.trans g1
    clear g1
    go_wp2_with fail
    refine (cM _).mono ?_
    rintro e v2 ⟨rfl, g2⟩
    replace B0 := B0.gr g2
    replace R0 := R0.gr g2
    replace G0 := G0.trans g2
    clear g2
    obtain ⟨m0, m1, m2⟩ := cells3 B0
    go_wp2_with fail
    refine (cP _ G0).mono ?_
    rintro e v3 ⟨b', c', rfl, hR3, hb3, g3⟩
    have hr2 := R0.lt
    replace R0 := R0.bl g3
    have G3 := G0.bl.trans g3
    have hb4 : ¬ b' = w.heap.size + 1 := by omega
    obtain ⟨z0, z1, z2⟩ := cells3 R0
    have z3 := R0.free 0
    have z4 := R0.free 1
    have z5 := R0.free 2
    clear m0 m1 m2
    go_wp2
    have k3 := R0.put3 (.int .i64 W) (.int .i64 H) (.slice (some ⟨b', 0, none⟩) L.length c')
    have G6 := G3.put3 (k := w.heap.size + 1) (by omega) (.int .i64 W) (.int .i64 H) (.slice (some ⟨b', 0, none⟩) L.length c')
    have R6 := hR3.far3 (c := w.heap.size + 1) hb4 (.int .i64 W) (.int .i64 H) (.slice (some ⟨b', 0, none⟩) L.length c')
    clear z0 z1 z2 z3 z4 z5
    generalize ((v3.setCell ⟨w.heap.size + 1, 0, none⟩ (.int .i64 W)).setCell ⟨w.heap.size + 1, 1, none⟩ (.int .i64 H)).setCell ⟨w.heap.size + 1, 2, none⟩ (.slice (some ⟨b', 0, none⟩) L.length c') = V at *
    obtain ⟨d0, d1, d2⟩ := cells3 k3
    exact bodyPost_ret (v := .tuple #[.agg #[.int .i64 W, .int .i64 H, .slice (some ⟨b', 0, none⟩) L.length c'], .int .i64 0]) (by simp [results, Try.results6, go_sem, d0, d1, d2]) rfl ⟨b', c', rfl, R6, .inr (by omega), G6⟩

end Go.Proofs.Ytackojmckloacaa
