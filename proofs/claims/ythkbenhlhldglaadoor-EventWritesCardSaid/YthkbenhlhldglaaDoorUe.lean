/-
  What is proved: what signed, unsigned, words, fixed of package args, and small, digits of the document's, hand back. No conditions but bounds.
-/
import Derived.Test.YthkbenhlhldglaaDoorUb
namespace Go.Proofs.YthkbenhlhldglaaDoor
open Go.RowKit Go.Sort

theorem unsigned1 (n : Int) (w : World) : Calls Tryd.prog 106 #[.int .i64 n] w (Rt w (.bool (decide (0 ≤ n) && decide (n ≤ 4294967295)))) := by
  go_enter Tryd.func106, Tryd.ntmps106
  go_wp2
  all_goals
    go_ret
    exact Rt.bool (by simp [*]; try omega) (Gr.refl _)
theorem smallV1 (n : Int) (w : World) : Calls Tryd.prog 88 #[.int .i64 n] w (Rt w (.bool (smallB n))) := by
  go_enter Tryd.func88, Tryd.ntmps88
  go_wp2
  all_goals
    go_ret
    exact Rt.bool (by rw [smallB_iff]; unfold small; simp [*]; try omega) (Gr.refl _)
theorem fixed1 (c : UInt8) (w : World) : Calls Tryd.prog 101 #[.int .u8 c.toNat] w (Rt w (.tuple #[.int .i64 (((fx c).getD 0 : Nat) : Int), .bool (fx c).isSome])) := by
  have inj : ∀ k : UInt8, c ≠ k → ¬ ((c.toNat : Int) = k.toNat) := fun k hk e => hk (UInt8.toNat_inj.1 (by omega))
  have hi := inj 105
  have hu := inj 117
  have hr := inj 114
  clear inj
  by_cases h0 : c = 105
  · subst h0
    go_enter Tryd.func101, Tryd.ntmps101
    go_wp2
    go_ret2
    exact ⟨by simp [fx], Gr.refl _⟩
  · by_cases h1 : c = 117
    · subst h1
      go_enter Tryd.func101, Tryd.ntmps101
      go_wp2
      go_ret2
      exact ⟨by simp [fx], Gr.refl _⟩
    · by_cases h2 : c = 114
      · subst h2
        go_enter Tryd.func101, Tryd.ntmps101
        go_wp2
        go_ret2
        exact ⟨by simp [fx], Gr.refl _⟩
      · replace hi := hi h0
        replace hu := hu h1
        replace hr := hr h2
        have e : fx c = none := by unfold fx; rw [if_neg (by simp [h0, h1]), if_neg h2]
        rw [e]
        simp only [UInt8.reduceToNat] at hi hu hr
        clear h0 h1 h2 e
        generalize c.toNat = x at *
        go_enter Tryd.func101, Tryd.ntmps101
        go_wp2
        go_ret2
        exact ⟨by simp, Gr.refl _⟩

theorem cells1 {w : World} {b : Nat} {z0 : Value} {t : TypeId} (h : At w b #[z0] t) : w.cell? ⟨b, 0, none⟩ = some z0 := h.cell 0
theorem cells4 {w : World} {b : Nat} {z0 z1 z2 z3 : Value} {t : TypeId} (h : At w b #[z0, z1, z2, z3] t) : w.cell? ⟨b, 0, none⟩ = some z0 ∧ w.cell? ⟨b, 1, none⟩ = some z1 ∧ w.cell? ⟨b, 2, none⟩ = some z2 ∧ w.cell? ⟨b, 3, none⟩ = some z3 :=
  ⟨h.cell 0, h.cell 1, h.cell 2, h.cell 3⟩

set_option maxRecDepth 100000 in
set_option maxHeartbeats 4000000 in
theorem words1 (n : Int) (_hn : -2147483648 ≤ n) (_kn : n ≤ 4294967295) (A0 : Option Addr) (c0 : Nat) (L : List Int) (B p : Nat) (w : World) (hB : B ≤ w.heap.size) (hlen : L.length ≤ 1000000) (own0 : OwB w B A0 c0 L) (hp : At w p #[.int .i64 n] 3) :
    Calls Tryd.prog 107 #[.slice A0 L.length c0, .slice (some ⟨p, 0, none⟩) 1 1] w fun e w' => ∃ A' c', e = .returned (.slice A' (L ++ d4 n).length c') ∧ OwB w' B A' c' (L ++ d4 n) ∧ (∀ w0 : World, w0.heap.size ≤ B → Bl w0 w → Bl w0 w') := by
  have keep0 : ∀ w0 : World, w0.heap.size ≤ B → Bl w0 w → Bl w0 w := fun _ _ h => h
  have z0 := Nat.le_refl w.heap.size
  have q0 := cells1 hp
  go_enter Tryd.func107, Tryd.ntmps107
  go_wp2
  refine wp_loop_rounds 2 ?_
  rw [rounds_succ]
  have o0 := own0.bl ((Bl.refl w).alloc (.cells #[.int .u8 (n / 16777216 % 256), .int .u8 (n / 65536 % 256), .int .u8 (n / 256 % 256), .int .u8 (n % 256)] 5))
  go_wp2_with (at_builtin; refine wp_app_b rfl (.tmp 13) (.tmp 25) rfl A0 c0 (L) (by first | rfl | (simp only [List.length_append]; rfl)) B o0 (some ⟨w.heap.size, 0, none⟩) [n / 16777216 % 256, n / 65536 % 256, n / 256 % 256, n % 256] 4 rfl (by simp) (RwB.blk (L := [n / 16777216 % 256, n / 65536 % 256, n / 256 % 256, n % 256]) (At.new w _ _)) (by simp []; omega) (by simp; omega) ?_; intro A1 c1 w1 own1 by1 ad1)
  have keep1 : ∀ w0 : World, w0.heap.size ≤ B → Bl w0 w → Bl w0 w1 := fun w0 hb h => app_bl by1 ((keep0 w0 hb h).alloc _) o0.lies hb
  have z1 : w.heap.size ≤ w1.heap.size := by have h1 := by1.size; have h2 := z0; simp at h1; omega
  clear ad1
  rw [rounds_succ]
  go_wp2
  go_ret
  exact ⟨A1, c1, by simp [d4_len], by simpa [d4] using own1, keep1⟩

set_option maxRecDepth 100000 in
set_option maxHeartbeats 4000000 in
theorem words4 (x0 y0 x1 y1 : Int) (_hx0 : -2147483648 ≤ x0) (_kx0 : x0 ≤ 4294967295) (_hy0 : -2147483648 ≤ y0) (_ky0 : y0 ≤ 4294967295) (_hx1 : -2147483648 ≤ x1) (_kx1 : x1 ≤ 4294967295) (_hy1 : -2147483648 ≤ y1) (_ky1 : y1 ≤ 4294967295) (A0 : Option Addr) (c0 : Nat) (L : List Int) (B p : Nat) (w : World) (hB : B ≤ w.heap.size) (hlen : L.length ≤ 1000000) (own0 : OwB w B A0 c0 L) (hp : At w p #[.int .i64 x0, .int .i64 y0, .int .i64 x1, .int .i64 y1] 3) (hA0 : A0.map (·.block) ≠ some p) :
    Calls Tryd.prog 107 #[.slice A0 L.length c0, .slice (some ⟨p, 0, none⟩) 4 4] w fun e w' => ∃ A' c', e = .returned (.slice A' (L ++ d4 x0 ++ d4 y0 ++ d4 x1 ++ d4 y1).length c') ∧ OwB w' B A' c' (L ++ d4 x0 ++ d4 y0 ++ d4 x1 ++ d4 y1) ∧ (∀ w0 : World, w0.heap.size ≤ B → Bl w0 w → Bl w0 w') := by
  have keep0 : ∀ w0 : World, w0.heap.size ≤ B → Bl w0 w → Bl w0 w := fun _ _ h => h
  have z0 := Nat.le_refl w.heap.size
  obtain ⟨q0, q1, q2, q3⟩ := cells4 hp
  have hpl := hp.lt
  go_enter Tryd.func107, Tryd.ntmps107
  go_wp2
  refine wp_loop_rounds 5 ?_
  rw [rounds_succ]
  have o0 := own0.bl ((Bl.refl w).alloc (.cells #[.int .u8 (x0 / 16777216 % 256), .int .u8 (x0 / 65536 % 256), .int .u8 (x0 / 256 % 256), .int .u8 (x0 % 256)] 5))
  have hp0 := (hp).alloc (.cells #[.int .u8 (x0 / 16777216 % 256), .int .u8 (x0 / 65536 % 256), .int .u8 (x0 / 256 % 256), .int .u8 (x0 % 256)] 5)
  go_wp2_with (at_builtin; refine wp_app_b rfl (.tmp 13) (.tmp 25) rfl A0 c0 (L) (by first | rfl | (simp only [List.length_append]; rfl)) B o0 (some ⟨w.heap.size, 0, none⟩) [x0 / 16777216 % 256, x0 / 65536 % 256, x0 / 256 % 256, x0 % 256] 4 rfl (by simp) (RwB.blk (L := [x0 / 16777216 % 256, x0 / 65536 % 256, x0 / 256 % 256, x0 % 256]) (At.new w _ _)) (by simp []; omega) (by simp; omega) ?_; intro A1 c1 w1 own1 by1 ad1)
  have keep1 : ∀ w0 : World, w0.heap.size ≤ B → Bl w0 w → Bl w0 w1 := fun w0 hb h => app_bl by1 ((keep0 w0 hb h).alloc _) o0.lies hb
  have z1 : w.heap.size ≤ w1.heap.size := by have h1 := by1.size; have h2 := z0; simp at h1; omega
  have hA1 : A1.map (·.block) ≠ some p := by
    rcases ad1 with h | h
    · rw [h]; exact hA0
    · rw [h]; simp; omega
  have hq1 := hp0.grown by1 (fun e => hA0 e.symm)
  clear ad1 q0 q1 q2 q3
  obtain ⟨q0, q1, q2, q3⟩ := cells4 hq1
  rw [rounds_succ]
  have o1 := own1.bl ((Bl.refl w1).alloc (.cells #[.int .u8 (y0 / 16777216 % 256), .int .u8 (y0 / 65536 % 256), .int .u8 (y0 / 256 % 256), .int .u8 (y0 % 256)] 5))
  have hp1 := (hq1).alloc (.cells #[.int .u8 (y0 / 16777216 % 256), .int .u8 (y0 / 65536 % 256), .int .u8 (y0 / 256 % 256), .int .u8 (y0 % 256)] 5)
  go_wp2_with (at_builtin; refine wp_app_b rfl (.tmp 13) (.tmp 25) rfl A1 c1 (L ++ d4 x0) (by first | rfl | (simp only [List.length_append]; rfl)) B o1 (some ⟨w1.heap.size, 0, none⟩) [y0 / 16777216 % 256, y0 / 65536 % 256, y0 / 256 % 256, y0 % 256] 4 rfl (by simp) (RwB.blk (L := [y0 / 16777216 % 256, y0 / 65536 % 256, y0 / 256 % 256, y0 % 256]) (At.new w1 _ _)) (by simp [d4_len]; omega) (by simp; omega) ?_; intro A2 c2 w2 own2 by2 ad2)
  have keep2 : ∀ w0 : World, w0.heap.size ≤ B → Bl w0 w → Bl w0 w2 := fun w0 hb h => app_bl by2 ((keep1 w0 hb h).alloc _) o1.lies hb
  have z2 : w.heap.size ≤ w2.heap.size := by have h1 := by2.size; have h2 := z1; simp at h1; omega
  have hA2 : A2.map (·.block) ≠ some p := by
    rcases ad2 with h | h
    · rw [h]; exact hA1
    · rw [h]; simp; omega
  have hq2 := hp1.grown by2 (fun e => hA1 e.symm)
  clear ad2 q0 q1 q2 q3
  obtain ⟨q0, q1, q2, q3⟩ := cells4 hq2
  rw [rounds_succ]
  have o2 := own2.bl ((Bl.refl w2).alloc (.cells #[.int .u8 (x1 / 16777216 % 256), .int .u8 (x1 / 65536 % 256), .int .u8 (x1 / 256 % 256), .int .u8 (x1 % 256)] 5))
  have hp2 := (hq2).alloc (.cells #[.int .u8 (x1 / 16777216 % 256), .int .u8 (x1 / 65536 % 256), .int .u8 (x1 / 256 % 256), .int .u8 (x1 % 256)] 5)
  go_wp2_with (at_builtin; refine wp_app_b rfl (.tmp 13) (.tmp 25) rfl A2 c2 (L ++ d4 x0 ++ d4 y0) (by first | rfl | (simp only [List.length_append]; rfl)) B o2 (some ⟨w2.heap.size, 0, none⟩) [x1 / 16777216 % 256, x1 / 65536 % 256, x1 / 256 % 256, x1 % 256] 4 rfl (by simp) (RwB.blk (L := [x1 / 16777216 % 256, x1 / 65536 % 256, x1 / 256 % 256, x1 % 256]) (At.new w2 _ _)) (by simp [d4_len]; omega) (by simp; omega) ?_; intro A3 c3 w3 own3 by3 ad3)
  have keep3 : ∀ w0 : World, w0.heap.size ≤ B → Bl w0 w → Bl w0 w3 := fun w0 hb h => app_bl by3 ((keep2 w0 hb h).alloc _) o2.lies hb
  have z3 : w.heap.size ≤ w3.heap.size := by have h1 := by3.size; have h2 := z2; simp at h1; omega
  have hA3 : A3.map (·.block) ≠ some p := by
    rcases ad3 with h | h
    · rw [h]; exact hA2
    · rw [h]; simp; omega
  have hq3 := hp2.grown by3 (fun e => hA2 e.symm)
  clear ad3 q0 q1 q2 q3
  obtain ⟨q0, q1, q2, q3⟩ := cells4 hq3
  rw [rounds_succ]
  have o3 := own3.bl ((Bl.refl w3).alloc (.cells #[.int .u8 (y1 / 16777216 % 256), .int .u8 (y1 / 65536 % 256), .int .u8 (y1 / 256 % 256), .int .u8 (y1 % 256)] 5))
  have hp3 := (hq3).alloc (.cells #[.int .u8 (y1 / 16777216 % 256), .int .u8 (y1 / 65536 % 256), .int .u8 (y1 / 256 % 256), .int .u8 (y1 % 256)] 5)
  go_wp2_with (at_builtin; refine wp_app_b rfl (.tmp 13) (.tmp 25) rfl A3 c3 (L ++ d4 x0 ++ d4 y0 ++ d4 x1) (by first | rfl | (simp only [List.length_append]; rfl)) B o3 (some ⟨w3.heap.size, 0, none⟩) [y1 / 16777216 % 256, y1 / 65536 % 256, y1 / 256 % 256, y1 % 256] 4 rfl (by simp) (RwB.blk (L := [y1 / 16777216 % 256, y1 / 65536 % 256, y1 / 256 % 256, y1 % 256]) (At.new w3 _ _)) (by simp [d4_len]; omega) (by simp; omega) ?_; intro A4 c4 w4 own4 by4 ad4)
  have keep4 : ∀ w0 : World, w0.heap.size ≤ B → Bl w0 w → Bl w0 w4 := fun w0 hb h => app_bl by4 ((keep3 w0 hb h).alloc _) o3.lies hb
  have z4 : w.heap.size ≤ w4.heap.size := by have h1 := by4.size; have h2 := z3; simp at h1; omega
  have hA4 : A4.map (·.block) ≠ some p := by
    rcases ad4 with h | h
    · rw [h]; exact hA3
    · rw [h]; simp; omega
  have hq4 := hp3.grown by4 (fun e => hA3 e.symm)
  clear ad4 q0 q1 q2 q3
  obtain ⟨q0, q1, q2, q3⟩ := cells4 hq4
  rw [rounds_succ]
  go_wp2
  go_ret
  exact ⟨A4, c4, by simp [d4_len], by simpa [d4] using own4, keep4⟩

set_option maxRecDepth 100000 in
set_option maxHeartbeats 1000000 in
theorem signed1 (n : Int) (p : Nat) (w : World) (hp : At w p #[.int .i64 n] 3) : Calls Tryd.prog 105 #[.slice (some ⟨p, 0, none⟩) 1 1] w (Rt w (.bool (smallB n))) := by
  have q0 := cells1 hp
  go_enter Tryd.func105, Tryd.ntmps105
  go_wp2
  refine wp_loop_rounds 2 ?_
  rw [rounds_succ]
  go_wp2
  repeat (any_goals (first | (go_ret; exact Rt.bool (by simp only [smallB_iff, small]; simp; try omega) (Gr.refl _)) | (rw [rounds_succ]; go_wp2)))
set_option maxRecDepth 100000 in
set_option maxHeartbeats 4000000 in
theorem signed4 (x0 y0 x1 y1 : Int) (p : Nat) (w : World) (hp : At w p #[.int .i64 x0, .int .i64 y0, .int .i64 x1, .int .i64 y1] 3) : Calls Tryd.prog 105 #[.slice (some ⟨p, 0, none⟩) 4 4] w (Rt w (.bool (smallB x0 && (smallB y0 && (smallB x1 && smallB y1))))) := by
  obtain ⟨q0, q1, q2, q3⟩ := cells4 hp
  go_enter Tryd.func105, Tryd.ntmps105
  go_wp2
  refine wp_loop_rounds 5 ?_
  rw [rounds_succ]
  go_wp2
  repeat (any_goals (first | (go_ret; exact Rt.bool (by simp only [Bool.and_eq_true, smallB_iff, small]; simp; try omega) (Gr.refl _)) | (rw [rounds_succ]; go_wp2)))

theorem d4_neg (n : Int) (h0 : -2147483648 ≤ n) (h : n < 0) : [(n + 4294967296) / 16777216, (n + 4294967296) / 65536 % 256, (n + 4294967296) / 256 % 256, (n + 4294967296) % 256] = d4 n := by
  unfold d4
  have e1 : (n + 4294967296) / 16777216 = n / 16777216 % 256 := by omega
  have e2 : (n + 4294967296) / 65536 % 256 = n / 65536 % 256 := by omega
  have e3 : (n + 4294967296) / 256 % 256 = n / 256 % 256 := by omega
  have e4 : (n + 4294967296) % 256 = n % 256 := by omega
  rw [e1, e2, e3, e4]
set_option maxRecDepth 100000 in
set_option maxHeartbeats 1000000 in
theorem digits1 (n : Int) (hn : -2147483648 ≤ n) (kn : n ≤ 4294967295) (w : World) : Calls Tryd.prog 89 #[.int .i64 n] w fun e w' => e = .returned (.slice (some ⟨w.heap.size, 0, none⟩) 4 4) ∧ w' = w.alloc (.cells (cB (d4 n)).toArray 5) := by
  by_cases h : n < 0
  · have e := d4_neg n hn h
    have h' : 0 ≤ n + 4294967296 := by omega
    have h2 : n + 4294967296 ≤ 4294967295 := by omega
    rw [← e]
    clear e
    go_enter Tryd.func89, Tryd.ntmps89
    go_wp2
    go_ret
    exact ⟨rfl, by simp [cB]⟩
  · have h' : 0 ≤ n := by omega
    have e : d4 n = [n / 16777216, n / 65536 % 256, n / 256 % 256, n % 256] := by
      have e1 : n / 16777216 % 256 = n / 16777216 := by omega
      unfold d4; rw [e1]
    rw [e]
    clear e
    go_enter Tryd.func89, Tryd.ntmps89
    go_wp2
    go_ret
    exact ⟨rfl, by simp [cB]⟩

end Go.Proofs.YthkbenhlhldglaaDoor
