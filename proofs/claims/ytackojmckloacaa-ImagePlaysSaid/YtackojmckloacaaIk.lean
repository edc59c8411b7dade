/-
  What is proved: like of the statements tells an image that is the document's.
-/
import Derived.Test.YtackojmckloacaaIb2
namespace Go.Proofs.Ytackojmckloacaa
open Go.RowKit Go.Sort Go.Deep

theorem ImgX.cellsG {w : World} {pm pc W H : Nat} {L : List Int} {X : List Value} (h : ImgX w pm pc W H L X) (n : Nat) (os : Array Obj) : ImgX (Go.Sort.grow (w.drewN n) os) pm pc W H L X := h.gr (((Gr.refl w).drewN n).grow os)
theorem Img.cellsG {w : World} {pm pc W H : Nat} {L : List Int} (h : Img w pm pc W H L) (n : Nat) (os : Array Obj) : Img (Go.Sort.grow (w.drewN n) os) pm pc W H L := h.gr (((Gr.refl w).drewN n).grow os)

set_option maxRecDepth 100000 in
set_option maxHeartbeats 2000000 in
theorem likeX {pm pc W H b c : Nat} {L : List Int} {X : List Value} (w : World) (hI : ImgX w pm pc W H L X) (hR : RowN .u32 w b 0 L) :
    Calls Try.prog 14 #[.pointer (some ⟨pm, 0, none⟩), .agg #[.int .i64 W, .int .i64 H, .slice (some ⟨b, 0, none⟩) L.length c]] w (Rt w (.bool true)) := by
  have w1 := hI.w1
  have hle := area_le hI.w2 hI.h2
  rw [← hI.len] at hle
  obtain ⟨n, hn⟩ : ∃ n, n = L.length := ⟨_, rfl⟩
  have hll : n = W * H := hn.trans hI.len
  rw [← hn] at hle ⊢
  have hnn := Lib.hid hn
  have hLL := Lib.hid hll
  clear hn hll
  have B0 := At.new w #[.int .i64 W, .int .i64 H, .slice (some ⟨b, 0, none⟩) n c] 25
  have G0 := (Gr.refl w).alloc (.cells #[.int .i64 W, .int .i64 H, .slice (some ⟨b, 0, none⟩) n c] 25)
  have hI0 := hI.gr G0
  have hR0 := hR.gr G0
  clear hI hR
  go_enter Try.func14, Try.ntmps14
  go_wp2
  obtain ⟨V, hV⟩ : ∃ V, V = w.alloc (.cells #[.int .i64 W, .int .i64 H, .slice (some ⟨b, 0, none⟩) n c] 25) := ⟨_, rfl⟩
  rw [← hV] at B0 G0 hI0 hR0 ⊢
  clear hV
  generalize w.heap.size = bm at B0 ⊢
  have m0 := fun q os => B0.cells q os 0; have m1 := fun q os => B0.cells q os 1; have m2 := fun q os => B0.cells q os 2
  simp at m0 m1 m2
  have cb := fun q os => boxX _ (hI0.cellsG q os)
  refine wp_region_quiet_grown (by kernel_rfl) (by kernel_rfl) ?_
  repeat (first | go_big_quiet_step (first | (go_at_call 24; exact Calls.grown (cb _ _)) | (go_at_call 33; exact Calls.grown (refBox1 _))) | quiet_step (first | (go_at_call 24; exact Calls.grown (cb _ _)) | (go_at_call 33; exact Calls.grown (refBox1 _))))
  refine wpQuiet_nil ?_
  intro W2 g8
  replace g8 : Gr _ W2 := g8
  replace B0 := B0.gr g8
  replace hI0 := hI0.gr g8
  replace hR0 := hR0.gr g8
  replace G0 := G0.trans g8
  clear m0 m1 m2 cb g8
  go_wp2
  go_loopw [5] (fun i wr => ∃ k : Nat, k ≤ n ∧ i = .int .i64 k ∧ Gr W2 wr) (fun i _ => n - (intOf i).toNat)
  case atStart => exact ⟨0, Nat.zero_le _, rfl, Gr.refl _⟩
  case round =>
    obtain ⟨k, hk, rfl, Gk⟩ := hrel
    have Bk := B0.gr Gk
    have b2 : wr.cell? ⟨bm, 2, none⟩ = some (.slice (some ⟨b, 0, none⟩) n c) := Bk.cell 2
    by_cases hlt : k < n
    · obtain ⟨d1, d2, d3⟩ := div_of (k := k) (H := H) w1 (by rw [← hLL.out]; exact hlt)
      obtain ⟨i, j, hi, hj, x1, x2, x3, x4, x5, x6, x7, x8⟩ := rem_quo k W w1 (by omega)
      rw [← hi, ← hj] at d3
      rw [← hi] at d1
      rw [← hj] at d2
      clear hi hj
      obtain ⟨x, hx⟩ : ∃ x, L[k]? = some x := ⟨L[k]'(by rw [← hnn.out]; exact hlt), List.getElem?_eq_getElem _⟩
      have Ik := hI0.gr Gk
      have ca := fun q os => at1X _ (Ik.cellsG q os) i j d1 d2 x (by rw [d3]; exact hx)
      have c1 : ∀ wr', Gr wr wr' → wr'.cell? ⟨b, k, none⟩ = some (.int .u32 x) := fun wr' g => by have := (hR0.gr (Gk.trans g)) _ _ hx; rwa [Nat.zero_add] at this
      have m0 := fun q os => Bk.cells q os 0; have m1 := fun q os => Bk.cells q os 1; have m2 := fun q os => Bk.cells q os 2
      simp at m0 m1 m2
      clear hx d3
      go_wp2
      refine wp_region_quiet_grown (by kernel_rfl) (by kernel_rfl) ?_
      repeat (first | go_big_quiet_step ((go_at_call 39; exact Calls.grown (ca _ _))) | quiet_step ((go_at_call 39; exact Calls.grown (ca _ _))))
      refine wpQuiet_nil ?_
      intro W3 g9
      replace g9 : Gr _ W3 := g9
      have e1 := c1 _ g9
      have e2 : W3.cell? ⟨bm, 2, none⟩ = some (.slice (some ⟨b, 0, none⟩) n c) := (Bk.gr g9).cell 2
      clear m0 m1 m2 c1 b2
      go_wp2
      go_roundw
      case rel => exact ⟨k + 1, by omega, by simp, Gk.trans g9⟩
      case measure => simp [intOf]; omega
    · obtain rfl : k = n := by omega
      go_wp2
      go_ret
      exact ⟨rfl, G0.trans Gk⟩
theorem like1 {pm pc W H b c : Nat} {L : List Int} (w : World) (hI : Img w pm pc W H L) (hR : RowN .u32 w b 0 L) :
    Calls Try.prog 14 #[.pointer (some ⟨pm, 0, none⟩), .agg #[.int .i64 W, .int .i64 H, .slice (some ⟨b, 0, none⟩) L.length c]] w (Rt w (.bool true)) := likeX w hI.x hR

end Go.Proofs.Ytackojmckloacaa
