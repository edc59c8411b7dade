/-
  What is proved: what number and value of package frame hand back. No conditions but bounds.
-/
import Derived.Test.YthkbenhlhldglaaDoorOb
namespace Go.Proofs.YthkbenhlhldglaaDoor
open Go.RowKit Go.Sort

/-- A row of bytes that was added to. -/
def NuQ (w : World) (B : Nat) (L : List Int) (e : Ending) (w' : World) : Prop := ∃ A' c', e = .returned (.slice A' L.length c') ∧ OwB w' B A' c' L ∧ w.heap.size ≤ w'.heap.size ∧ (∀ w0 : World, w0.heap.size ≤ B → Bl w0 w → Bl w0 w')
theorem u8w (x : Int) : IntKind.u8.wrap x = x % 256 := by rw [IntKind.wrap_u8]
theorem or8 {x y : Int} (h0 : 0 ≤ x) (h1 : x ≤ 16777215) (h2 : 0 ≤ y) (h3 : y ≤ 255) : bits .or .i64 (x * 256) y = x * 256 + y :=
  bits_join .i64 63 (by decide) (fun n h h' => by rw [IntKind.wrap_i64]; omega) 8 (x * 256) y (by omega) (by omega) (by omega) h2 (by omega) (by omega)
theorem or8z {y : Int} (h2 : 0 ≤ y) (h3 : y ≤ 255) : bits .or .i64 0 y = y := by
  have := or8 (x := 0) (Int.le_refl _) (by omega) h2 h3
  simpa using this

set_option maxRecDepth 100000 in
set_option maxHeartbeats 4000000 in
theorem number1 (A0 : Option Addr) (c0 : Nat) (L : List Int) (B : Nat) (v : Int) (_ : 0 ≤ v) (_ : v ≤ 4294967295) (w : World) (hB : B ≤ w.heap.size) (hlen : L.length ≤ 1000000) (own0 : OwB w B A0 c0 L) :
    Calls Tryd.prog 110 #[.slice A0 L.length c0, .int .i64 v, .int .i64 1] w (NuQ w B (L ++ [v % 256])) := by
  have keep0 : ∀ w0 : World, w0.heap.size ≤ B → Bl w0 w → Bl w0 w := fun _ _ h => h
  have z0 := Nat.le_refl w.heap.size
  go_enter Tryd.func110, Tryd.ntmps110
  go_wp2
  refine wp_loop_rounds 2 ?_
  rw [rounds_succ]
  have o0 := own0.bl ((Bl.refl w).alloc (.cells #[.int .u8 (v % 256)] 5))
  go_wp2_with (at_builtin; refine wp_app_b rfl (.tmp 11) (.tmp 17) rfl A0 c0 (L) (by first | rfl | (simp only [List.length_append]; rfl)) B o0 (some ⟨w.heap.size, 0, none⟩) [v % 256] 1 rfl (by simp) (RwB.blk (L := [v % 256]) (At.new w _ _)) (by simp; omega) (by simp; omega) ?_; intro A1 c1 w1 own1 by1 _)
  have keep1 : ∀ w0 : World, w0.heap.size ≤ B → Bl w0 w → Bl w0 w1 := fun w0 hb h => app_bl by1 ((keep0 w0 hb h).alloc _) o0.lies hb
  have z1 : w.heap.size ≤ w1.heap.size := by have h1 := by1.size; have h2 := z0; simp at h1; omega
  rw [rounds_succ]
  go_wp2
  go_ret
  exact ⟨A1, c1, by simp, by simpa using own1, z1, keep1⟩

set_option maxRecDepth 100000 in
set_option maxHeartbeats 4000000 in
theorem number2 (A0 : Option Addr) (c0 : Nat) (L : List Int) (B : Nat) (v : Int) (_ : 0 ≤ v) (_ : v ≤ 4294967295) (w : World) (hB : B ≤ w.heap.size) (hlen : L.length ≤ 1000000) (own0 : OwB w B A0 c0 L) :
    Calls Tryd.prog 110 #[.slice A0 L.length c0, .int .i64 v, .int .i64 2] w (NuQ w B (L ++ [v / 256 % 256, v % 256])) := by
  have keep0 : ∀ w0 : World, w0.heap.size ≤ B → Bl w0 w → Bl w0 w := fun _ _ h => h
  have z0 := Nat.le_refl w.heap.size
  go_enter Tryd.func110, Tryd.ntmps110
  go_wp2
  refine wp_loop_rounds 3 ?_
  rw [rounds_succ]
  have o0 := own0.bl ((Bl.refl w).alloc (.cells #[.int .u8 (v / 256 % 256)] 5))
  go_wp2_with (at_builtin; refine wp_app_b rfl (.tmp 11) (.tmp 17) rfl A0 c0 (L) (by first | rfl | (simp only [List.length_append]; rfl)) B o0 (some ⟨w.heap.size, 0, none⟩) [v / 256 % 256] 1 rfl (by simp) (RwB.blk (L := [v / 256 % 256]) (At.new w _ _)) (by simp; omega) (by simp; omega) ?_; intro A1 c1 w1 own1 by1 _)
  have keep1 : ∀ w0 : World, w0.heap.size ≤ B → Bl w0 w → Bl w0 w1 := fun w0 hb h => app_bl by1 ((keep0 w0 hb h).alloc _) o0.lies hb
  have z1 : w.heap.size ≤ w1.heap.size := by have h1 := by1.size; have h2 := z0; simp at h1; omega
  rw [rounds_succ]
  have o1 := own1.bl ((Bl.refl w1).alloc (.cells #[.int .u8 (v % 256)] 5))
  go_wp2_with (at_builtin; refine wp_app_b rfl (.tmp 11) (.tmp 17) rfl A1 c1 (L ++ [v / 256 % 256]) (by first | rfl | (simp only [List.length_append]; rfl)) B o1 (some ⟨w1.heap.size, 0, none⟩) [v % 256] 1 rfl (by simp) (RwB.blk (L := [v % 256]) (At.new w1 _ _)) (by simp; omega) (by simp; omega) ?_; intro A2 c2 w2 own2 by2 _)
  have keep2 : ∀ w0 : World, w0.heap.size ≤ B → Bl w0 w → Bl w0 w2 := fun w0 hb h => app_bl by2 ((keep1 w0 hb h).alloc _) o1.lies hb
  have z2 : w.heap.size ≤ w2.heap.size := by have h1 := by2.size; have h2 := z1; simp at h1; omega
  rw [rounds_succ]
  go_wp2
  go_ret
  exact ⟨A2, c2, by simp, by simpa using own2, z2, keep2⟩

set_option maxRecDepth 100000 in
set_option maxHeartbeats 4000000 in
theorem number4 (A0 : Option Addr) (c0 : Nat) (L : List Int) (B : Nat) (v : Int) (hv0 : 0 ≤ v) (hv1 : v ≤ 4294967295) (w : World) (hB : B ≤ w.heap.size) (hlen : L.length ≤ 1000000) (own0 : OwB w B A0 c0 L) :
    Calls Tryd.prog 110 #[.slice A0 L.length c0, .int .i64 v, .int .i64 4] w (NuQ w B (L ++ [v / 16777216, v / 65536 % 256, v / 256 % 256, v % 256])) := by
  have keep0 : ∀ w0 : World, w0.heap.size ≤ B → Bl w0 w → Bl w0 w := fun _ _ h => h
  have z0 := Nat.le_refl w.heap.size
  go_enter Tryd.func110, Tryd.ntmps110
  go_wp2
  refine wp_loop_rounds 5 ?_
  rw [rounds_succ]
  have o0 := own0.bl ((Bl.refl w).alloc (.cells #[.int .u8 (v / 16777216)] 5))
  go_wp2_with (at_builtin; refine wp_app_b rfl (.tmp 11) (.tmp 17) rfl A0 c0 (L) (by first | rfl | (simp only [List.length_append]; rfl)) B o0 (some ⟨w.heap.size, 0, none⟩) [v / 16777216] 1 rfl (by simp) (RwB.blk (L := [v / 16777216]) (At.new w _ _)) (by simp; omega) (by simp; omega) ?_; intro A1 c1 w1 own1 by1 _)
  have keep1 : ∀ w0 : World, w0.heap.size ≤ B → Bl w0 w → Bl w0 w1 := fun w0 hb h => app_bl by1 ((keep0 w0 hb h).alloc _) o0.lies hb
  have z1 : w.heap.size ≤ w1.heap.size := by have h1 := by1.size; have h2 := z0; simp at h1; omega
  rw [rounds_succ]
  have o1 := own1.bl ((Bl.refl w1).alloc (.cells #[.int .u8 (v / 65536 % 256)] 5))
  go_wp2_with (at_builtin; refine wp_app_b rfl (.tmp 11) (.tmp 17) rfl A1 c1 (L ++ [v / 16777216]) (by first | rfl | (simp only [List.length_append]; rfl)) B o1 (some ⟨w1.heap.size, 0, none⟩) [v / 65536 % 256] 1 rfl (by simp) (RwB.blk (L := [v / 65536 % 256]) (At.new w1 _ _)) (by simp; omega) (by simp; omega) ?_; intro A2 c2 w2 own2 by2 _)
  have keep2 : ∀ w0 : World, w0.heap.size ≤ B → Bl w0 w → Bl w0 w2 := fun w0 hb h => app_bl by2 ((keep1 w0 hb h).alloc _) o1.lies hb
  have z2 : w.heap.size ≤ w2.heap.size := by have h1 := by2.size; have h2 := z1; simp at h1; omega
  rw [rounds_succ]
  have o2 := own2.bl ((Bl.refl w2).alloc (.cells #[.int .u8 (v / 256 % 256)] 5))
  go_wp2_with (at_builtin; refine wp_app_b rfl (.tmp 11) (.tmp 17) rfl A2 c2 (L ++ [v / 16777216] ++ [v / 65536 % 256]) (by first | rfl | (simp only [List.length_append]; rfl)) B o2 (some ⟨w2.heap.size, 0, none⟩) [v / 256 % 256] 1 rfl (by simp) (RwB.blk (L := [v / 256 % 256]) (At.new w2 _ _)) (by simp; omega) (by simp; omega) ?_; intro A3 c3 w3 own3 by3 _)
  have keep3 : ∀ w0 : World, w0.heap.size ≤ B → Bl w0 w → Bl w0 w3 := fun w0 hb h => app_bl by3 ((keep2 w0 hb h).alloc _) o2.lies hb
  have z3 : w.heap.size ≤ w3.heap.size := by have h1 := by3.size; have h2 := z2; simp at h1; omega
  rw [rounds_succ]
  have o3 := own3.bl ((Bl.refl w3).alloc (.cells #[.int .u8 (v % 256)] 5))
  go_wp2_with (at_builtin; refine wp_app_b rfl (.tmp 11) (.tmp 17) rfl A3 c3 (L ++ [v / 16777216] ++ [v / 65536 % 256] ++ [v / 256 % 256]) (by first | rfl | (simp only [List.length_append]; rfl)) B o3 (some ⟨w3.heap.size, 0, none⟩) [v % 256] 1 rfl (by simp) (RwB.blk (L := [v % 256]) (At.new w3 _ _)) (by simp; omega) (by simp; omega) ?_; intro A4 c4 w4 own4 by4 _)
  have keep4 : ∀ w0 : World, w0.heap.size ≤ B → Bl w0 w → Bl w0 w4 := fun w0 hb h => app_bl by4 ((keep3 w0 hb h).alloc _) o3.lies hb
  have z4 : w.heap.size ≤ w4.heap.size := by have h1 := by4.size; have h2 := z3; simp at h1; omega
  rw [rounds_succ]
  go_wp2
  go_ret
  exact ⟨A4, c4, by simp, by simpa using own4, z4, keep4⟩


set_option maxRecDepth 100000 in
set_option maxHeartbeats 4000000 in
theorem valueF1 (b off c : Nat) (x0 : Int) (w : World) (k0 : w.cell? ⟨b, off, none⟩ = some (.int .u8 x0)) (b0 : 0 ≤ x0 ∧ x0 ≤ 255) :
    Calls Tryd.prog 108 #[.slice (some ⟨b, off, none⟩) 1 c] w fun e w' => e = .returned (.int .i64 x0) ∧ w = w' := by
  obtain ⟨b00, b01⟩ := b0
  have e0 := or8z b00 b01
  go_enter Tryd.func108, Tryd.ntmps108
  go_wp2
  refine wp_loop_rounds 2 ?_
  rw [rounds_succ]
  go_wp2
  rw [rounds_succ]
  go_wp2
  go_ret
  exact ⟨rfl, rfl⟩

set_option maxRecDepth 100000 in
set_option maxHeartbeats 4000000 in
theorem value2 (b off c : Nat) (x0 x1 : Int) (w : World) (k0 : w.cell? ⟨b, off, none⟩ = some (.int .u8 x0)) (k1 : w.cell? ⟨b, off + 1, none⟩ = some (.int .u8 x1)) (b0 : 0 ≤ x0 ∧ x0 ≤ 255) (b1 : 0 ≤ x1 ∧ x1 ≤ 255) :
    Calls Tryd.prog 108 #[.slice (some ⟨b, off, none⟩) 2 c] w fun e w' => e = .returned (.int .i64 (x0 * 256 + x1)) ∧ w = w' := by
  obtain ⟨b00, b01⟩ := b0
  obtain ⟨b10, b11⟩ := b1
  have e0 := or8z b00 b01
  have e1 := or8 (x := x0) (y := x1) b00 (by omega) b10 b11
  go_enter Tryd.func108, Tryd.ntmps108
  go_wp2
  refine wp_loop_rounds 3 ?_
  rw [rounds_succ]
  go_wp2
  rw [rounds_succ]
  go_wp2
  rw [rounds_succ]
  go_wp2
  go_ret
  exact ⟨rfl, rfl⟩

set_option maxRecDepth 100000 in
set_option maxHeartbeats 4000000 in
theorem value4 (b off c : Nat) (x0 x1 x2 x3 : Int) (w : World) (k0 : w.cell? ⟨b, off, none⟩ = some (.int .u8 x0)) (k1 : w.cell? ⟨b, off + 1, none⟩ = some (.int .u8 x1)) (k2 : w.cell? ⟨b, off + 2, none⟩ = some (.int .u8 x2)) (k3 : w.cell? ⟨b, off + 3, none⟩ = some (.int .u8 x3))
    (b0 : 0 ≤ x0 ∧ x0 ≤ 255) (b1 : 0 ≤ x1 ∧ x1 ≤ 255) (b2 : 0 ≤ x2 ∧ x2 ≤ 255) (b3 : 0 ≤ x3 ∧ x3 ≤ 255) :
    Calls Tryd.prog 108 #[.slice (some ⟨b, off, none⟩) 4 c] w fun e w' => e = .returned (.int .i64 (x0 * 16777216 + x1 * 65536 + x2 * 256 + x3)) ∧ w = w' := by
  obtain ⟨b00, b01⟩ := b0
  obtain ⟨b10, b11⟩ := b1
  obtain ⟨b20, b21⟩ := b2
  obtain ⟨b30, b31⟩ := b3
  have e0 := or8z b00 b01
  have e1 := or8 (x := x0) (y := x1) b00 (by omega) b10 b11
  obtain ⟨c1, hc1⟩ : ∃ c, c = x0 * 256 + x1 := ⟨_, rfl⟩
  rw [← hc1] at e1
  have d10 : 0 ≤ c1 := by omega
  have d11 : c1 ≤ 65535 := by omega
  have e2 := or8 (x := c1) (y := x2) d10 (by omega) b20 b21
  obtain ⟨c2, hc2⟩ : ∃ c, c = c1 * 256 + x2 := ⟨_, rfl⟩
  rw [← hc2] at e2
  have d20 : 0 ≤ c2 := by omega
  have d21 : c2 ≤ 16777215 := by omega
  have e3 := or8 (x := c2) (y := x3) d20 (by omega) b30 b31
  obtain ⟨c4, hc4⟩ : ∃ c, c = c2 * 256 + x3 := ⟨_, rfl⟩
  rw [← hc4] at e3
  have he : x0 * 16777216 + x1 * 65536 + x2 * 256 + x3 = c4 := by omega
  rw [he]
  clear he hc1 hc2 hc4
  go_enter Tryd.func108, Tryd.ntmps108
  go_wp2
  refine wp_loop_rounds 5 ?_
  rw [rounds_succ]
  go_wp2
  rw [rounds_succ]
  go_wp2
  rw [rounds_succ]
  go_wp2
  rw [rounds_succ]
  go_wp2
  rw [rounds_succ]
  go_wp2
  go_ret
  exact ⟨rfl, rfl⟩

end Go.Proofs.YthkbenhlhldglaaDoor
