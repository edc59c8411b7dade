/-
  What is proved: what build and like of the statements do.
-/
import Derived.Test.YtackojmckloacaaIr
import Derived.LoopTactic
namespace Go.Proofs.Ytackojmckloacaa
open Go.RowKit Go.Sort Go.Deep

theorem mod_int (k W : Nat) : ((k : Int).tmod (W : Int)) = ((k % W : Nat) : Int) := by rw [Int.tmod_eq_emod_of_nonneg (by omega)]; simp
theorem div_int (k W : Nat) : ((k : Int).tdiv (W : Int)) = ((k / W : Nat) : Int) := by rw [Int.tdiv_eq_ediv_of_nonneg (by omega)]; simp

theorem rem_quo (k W : Nat) (hW : 1 ≤ W) (hk : k ≤ 1000000000) : ∃ i j : Nat, i = k % W ∧ j = k / W ∧ ¬ W = 0 ∧ ((k : Int).tmod (W : Int)) = (i : Int) ∧ ((k : Int) % (W : Int)) = (i : Int) ∧ ((k : Int) / (W : Int)) = (j : Int) ∧ IntKind.i64.wrap (i : Int) = (i : Int) ∧ IntKind.i64.wrap (j : Int) = (j : Int) ∧ wrap64 (i : Int) = (i : Int) ∧ wrap64 (j : Int) = (j : Int) := by
  have h2 : k % W ≤ k := Nat.mod_le _ _
  have h3 : k / W ≤ k := Nat.div_le_self _ _
  have bare : ∀ m : Nat, m ≤ k → IntKind.i64.wrap (m : Int) = (m : Int) ∧ wrap64 (m : Int) = (m : Int) := fun m h => ⟨IntWalk.i64_in _ (by omega), w64 (by omega) (by omega)⟩
  exact ⟨_, _, rfl, rfl, by omega, mod_int k W, by simp, by simp, (bare _ h2).1, (bare _ h3).1, (bare _ h2).2, (bare _ h3).2⟩
theorem take_set_z {L : List Int} {n k : Nat} {x : Int} (hn : k < n) (hx : L[k]? = some x) : (L.take k ++ List.replicate (n - k) 0).set k x = L.take (k + 1) ++ List.replicate (n - (k + 1)) 0 := by
  obtain ⟨_, hk⟩ := get_of hx
  have h1 : (L.take k).length = k := by rw [List.length_take]; omega
  have h2 : L.take (k + 1) = L.take k ++ [x] := by rw [List.take_add_one, hx]; rfl
  rw [show n - k = (n - (k + 1)) + 1 by omega, List.replicate_succ, List.set_append_right _ _ (by omega), h1, h2]
  simp

set_option maxRecDepth 100000 in
set_option maxHeartbeats 2000000 in
theorem build1 {W H b c : Nat} {L : List Int} (w : World) (hR : RowN .u32 w b 0 L) (hl : L.length = W * H) (w1 : 1 ≤ W) (w2 : W ≤ 256) (h1 : 1 ≤ H) (h2 : H ≤ 256) (hM : MayL L) :
    Calls Try.prog 5 #[.agg #[.int .i64 W, .int .i64 H, .slice (some ⟨b, 0, none⟩) L.length c]] w
      (fun e w' => ∃ pm pc, e = .returned (.pointer (some ⟨pm, 0, none⟩)) ∧ Img w' pm pc W H L ∧ w.heap.size ≤ pm ∧ w.heap.size ≤ pc ∧ Bl w w') := by
  have hb0 : 0 < L.length := by rw [hl]; exact Nat.mul_pos w1 h1
  have hle := area_le w2 h2
  have B0 := At.new w #[.int .i64 W, .int .i64 H, .slice (some ⟨b, 0, none⟩) L.length c] 25
  have cn := new1 W H (w.alloc (.cells #[.int .i64 W, .int .i64 H, .slice (some ⟨b, 0, none⟩) L.length c] 25)) w1 w2 h1 h2
  have hR1 := hR.gr ((Gr.refl w).alloc (.cells #[.int .i64 W, .int .i64 H, .slice (some ⟨b, 0, none⟩) L.length c] 25))
  have G0 := ((Gr.refl w).alloc (.cells #[.int .i64 W, .int .i64 H, .slice (some ⟨b, 0, none⟩) L.length c] 25)).bl
  have hbl : b < w.heap.size := World.block_lt_of_cell? w _ (hR 0 L[0] (List.getElem?_eq_getElem hb0))
  rw [← hl] at hle cn
  obtain ⟨n, hn⟩ : ∃ n, n = L.length := ⟨_, rfl⟩
  rw [← hn] at hle cn B0 hR1 G0 ⊢
  have hnn := Lib.hid hn
  have hll := Lib.hid hl
  clear hn hl hR hb0
  go_enter Try.func5, Try.ntmps5
  go_wp2_with fail
  refine cn.mono ?_
  rintro e v1 ⟨pm, pc, rfl, I1, m1, m2, g1⟩
  replace B0 := B0.gr g1
  replace hR1 := hR1.gr g1
  replace G0 := G0.gr g1
  simp at m1 m2
  have hz : L.take 0 ++ List.replicate (n - 0) 0 = List.replicate n 0 := by simp
  rw [← hz] at I1
  clear hz cn g1
  go_wp2_with fail
  go_loopw [5] (fun i wr => ∃ k : Nat, k ≤ n ∧ i = .int .i64 k ∧ Img wr pm pc W H (L.take k ++ List.replicate (n - k) 0) ∧ At wr w.heap.size #[.int .i64 W, .int .i64 H, .slice (some ⟨b, 0, none⟩) n c] 25 ∧ RowN .u32 wr b 0 L ∧ Bl w wr)
    (fun i _ => n - (intOf i).toNat)
  case atStart => exact ⟨0, Nat.zero_le _, rfl, I1, B0, hR1, G0⟩
  case round =>
    obtain ⟨k, hk, rfl, Ik, Bk, Rk, Gk⟩ := hrel
    have b0 : wr.cell? ⟨w.heap.size, 0, none⟩ = some (.int .i64 W) := Bk.cell 0
    have b1 : wr.cell? ⟨w.heap.size, 2, none⟩ = some (.slice (some ⟨b, 0, none⟩) n c) := Bk.cell 2
    by_cases hlt : k < n
    · obtain ⟨d1, d2, d3⟩ := div_of (k := k) (H := H) w1 (by rw [← hll.out, ← hnn.out]; exact hlt)
      obtain ⟨i, j, hi, hj, x1, x2, x3, x4, x5, x6, x7, x8⟩ := rem_quo k W w1 (by omega)
      rw [← hi, ← hj] at d3
      rw [← hi] at d1
      rw [← hj] at d2
      clear hi hj
      obtain ⟨x, hx⟩ : ∃ x, L[k]? = some x := ⟨L[k]'(by rw [← hnn.out]; exact hlt), List.getElem?_eq_getElem _⟩
      have c1 : wr.cell? ⟨b, k, none⟩ = some (.int .u32 x) := by have := Rk _ _ hx; rwa [Nat.zero_add] at this
      obtain ⟨hx1, hx2⟩ := hM x (get_of hx).1
      have cs := fun (w' : World) (h : Img w' pm pc W H (L.take k ++ List.replicate (n - k) 0)) => set1 w' h i j d1 d2 x hx1 hx2
      rw [d3, take_set_z hlt hx] at cs
      clear d3 hx
      go_wp2
      go_still_tail 14, (by kernel_rfl)
      change wpList _ _ _ _ _ wr.drew
      go_wp2_with fail
      refine (cs _ (Ik.gr (Gr.refl wr).drew)).mono ?_
      rintro e v2 ⟨rfl, g2, I2⟩
      have g3 := by_trans ((Gr.refl wr).drew.by (some pc)) g2
      have p1 := Bk.lt
      have p2 := Gk.size
      go_wp2
      go_roundw
      case rel => exact ⟨k + 1, by omega, by simp, I2, Bk.kept g3 (by simp; omega), Rk.kept g3 (by simp; omega), Gk.row g3 (by omega)⟩
      case measure => simp [intOf]; omega
    · obtain rfl : k = n := by omega
      go_wp2
      go_ret
      refine ⟨pm, pc, rfl, ?_, by omega, by omega, Gk⟩
      have e : L.take k ++ List.replicate (k - k) 0 = L := by simp [hnn.out]
      rwa [e] at Ik

end Go.Proofs.Ytackojmckloacaa
