/-
  What is proved: what the document's Clear and Draw of a layer hand back. No conditions but bounds.
-/
import Derived.Test.YtafceieenhogpaaZm
import Derived.Test.YtafceieenhogpaaZj
import Derived.Test.YtafceieenhogpaaZf
import Derived.Test.YtafceieenhogpaaZc
namespace Go.Proofs.Ytafceieenhogpaa
open Go.RowKit Go.Sort Go.Deep

set_option maxRecDepth 100000 in
set_option maxHeartbeats 4000000 in
theorem rclear1 {W H b c : Nat} {L : List Int} (w : World) (hR : RowN .u32 w b 0 L) (hl : L.length = W * H) (w1 : 1 ≤ W) (w2 : W ≤ 256) (h1 : 1 ≤ H) (h2 : H ≤ 256) (AW : Option Addr) (cW : Nat) (LW : List Rc) (hW : Rs w AW LW) (hlW : LW.length ≤ 1000000) (q : Int) (hq : C32 q) (hm : mayC q = true) :
    Calls Try.prog 39 #[.agg #[.int .i64 W, .int .i64 H, .slice (some ⟨b, 0, none⟩) L.length c], .slice AW LW.length cW, .int .u32 q] w
      (fun e w' => ∃ b' c', e = .returned (.tuple #[.agg #[.int .i64 W, .int .i64 H, .slice (some ⟨b', 0, none⟩) L.length c'], .int .i64 (cntI (fun i => hasL LW (i % W : Nat) (i / W : Nat)) L.length : Nat)]) ∧
        RowN .u32 w' b' 0 (upto (fun i => if hasL LW (i % W : Nat) (i / W : Nat) then q else L.getD i 0) L.length) ∧ w.heap.size ≤ b' ∧ Bl w w') := by
  have hle := area_le w2 h2
  have hn0 : 0 < L.length := by rw [hl]; exact Nat.mul_pos w1 h1
  rw [← hl] at hle
  have cm := fun w => refcmay1 q w hq
  rw [hm] at cm
  have hget : ∀ k, k < L.length → L[k]? = some (L.getD k 0) := fun k hk => by rw [List.getD, List.getElem?_eq_getElem hk]; rfl
  obtain ⟨n, hn⟩ : ∃ n, n = L.length := ⟨_, rfl⟩
  rw [← hn] at hle hl hget hn0 ⊢
  have hll := Lib.hid hl
  have hgett := Lib.hid hget
  clear hn hl hget
  have G0 := (((Gr.refl w).alloc (.cells #[.int .i64 W, .int .i64 H, .slice (some ⟨b, 0, none⟩) n c] 34)).alloc (.cells #[.int .i64 0, .int .i64 0, .slice none 0 0] 34))
  have M0 := (At.new w #[.int .i64 W, .int .i64 H, .slice (some ⟨b, 0, none⟩) n c] 34).alloc (.cells #[.int .i64 0, .int .i64 0, .slice none 0 0] 34)
  have R0 := At.newAt (w := w.alloc (.cells #[.int .i64 W, .int .i64 H, .slice (some ⟨b, 0, none⟩) n c] 34)) (n := w.heap.size + 1) (by simp) #[.int .i64 0, .int .i64 0, .slice none 0 0] 34
  go_enter Try.func39, Try.ntmps39
  go_wp2_with fail
  refine (cm _).mono ?_
  rintro e v1 ⟨rfl, g1⟩
  replace G0 := (G0.trans g1).bl
  replace M0 := M0.gr g1
  replace R0 := R0.gr g1
  have bs1 := R0.lt
  obtain ⟨bm, hbm⟩ : ∃ bm, bm = w.heap.size := ⟨_, rfl⟩
  obtain ⟨B, hB⟩ : ∃ B, B = v1.heap.size := ⟨_, rfl⟩
  have bs2 : bm + 1 < B := by omega
  rw [← hbm] at M0 R0 ⊢
  have hBv : B ≤ v1.heap.size := by omega
  have hwm : w.heap.size ≤ bm := by omega
  have hwB : w.heap.size ≤ B := by omega
  clear g1 cm bs1 hbm hB
  go_wp2_with fail
  go_loopw [9, 10, 11] (fun l m i wr => ∃ (k : Nat) (A : Option Addr) (c' : Nat), k ≤ n ∧ i = .int .i64 k ∧ m = .int .i64 (cntI (fun i => hasL LW (i % W : Nat) (i / W : Nat)) k : Nat) ∧ l = .slice A k c' ∧
      OwN .u32 39 wr B A c' (upto (fun i => if hasL LW (i % W : Nat) (i / W : Nat) then q else L.getD i 0) k) ∧
      At wr bm #[.int .i64 W, .int .i64 H, .slice (some ⟨b, 0, none⟩) n c] 34 ∧ At wr (bm + 1) #[.int .i64 0, .int .i64 0, .slice none 0 0] 34 ∧ Bl w wr ∧ B ≤ wr.heap.size)
    (fun _ _ i _ => n - (intOf i).toNat)
  case atStart => exact ⟨0, none, 0, Nat.zero_le _, rfl, rfl, rfl, OwN.nil _ _ _ _, M0, R0, G0, hBv⟩
  case round =>
    obtain ⟨k, A, c', hk, rfl, rfl, rfl, ow, Mk, Rk, Gk, hBk⟩ := hrel
    obtain ⟨m0, m1, m2⟩ := cells3 Mk
    by_cases hlt : k < n
    · obtain ⟨d1, d2, d3⟩ := div_of (k := k) (H := H) w1 (by rw [← hll.out]; exact hlt)
      obtain ⟨i, j, hi, hj, x1, x2, x3, x4, x5, x6, x7, x8⟩ := rem_quo k W w1 (by omega)
      have hs : hasL LW (k % W : Nat) (k / W : Nat) = hasL LW i j := by rw [hi, hj]
      have ch := fun q os => refHas1 AW cW LW i j (grow (wr.drewN q) os) (hW.bl (Gk.gr (((Gr.refl wr).drewN q).grow os))) (Nat.le_trans hlW (by decide))
      have hsucc := upto_succ (fun i => if hasL LW (i % W : Nat) (i / W : Nat) then q else L.getD i 0) k
      have hcnt := cntI_succ (fun i => hasL LW (i % W : Nat) (i / W : Nat)) k
      have hle2 := cntI_le (fun i => hasL LW (i % W : Nat) (i / W : Nat)) k
      rw [hs] at hsucc hcnt
      clear hi hj d1 d2 d3 hs
      have hx := hgett.out k hlt
      generalize L.getD k 0 = x at *
      have c1 : ∀ wr', Gr wr wr' → wr'.cell? ⟨b, k, none⟩ = some (.int .u32 x) := fun wr' g => by have := (hR.bl (Gk.gr g)) _ _ hx; rwa [Nat.zero_add] at this
      clear hx
      have hsuc := Lib.hid hsucc
      have hcn := Lib.hid hcnt
      clear hsucc hcnt
      generalize hfdef : (fun i : Nat => if hasL LW (i % W : Nat) (i / W : Nat) then q else L.getD i 0) = f at *
      generalize (fun i : Nat => hasL LW (i % W : Nat) (i / W : Nat)) = pp at *
      have m0 := fun q os => Mk.cells q os 0; have m1 := fun q os => Mk.cells q os 1; have m2 := fun q os => Mk.cells q os 2
      simp at m0 m1 m2
      have hm2 : wr.cell? ⟨bm, 2, none⟩ = some (.slice (some ⟨b, 0, none⟩) n c) := Mk.cell 2
      cases hh : hasL LW i j
      all_goals
        rw [hh] at ch hsuc hcn
        go_wp2
        refine wp_region_quiet_grown (by kernel_rfl) (by kernel_rfl) ?_
        repeat (first | go_big_quiet_step ((go_at_call 79; exact Calls.grown (ch _ _))) | quiet_step ((go_at_call 79; exact Calls.grown (ch _ _))))
        refine wpQuiet_nil ?_
        intro W3 g9
        replace g9 : Gr _ W3 := g9
        have cx := c1 _ g9
        have z2 : W3.cell? ⟨bm, 2, none⟩ = some (.slice (some ⟨b, 0, none⟩) n c) := (Mk.gr g9).cell 2
        replace ow := ow.gr g9
        replace Mk := Mk.gr g9
        replace Rk := Rk.gr g9
        replace Gk := Gk.gr g9
        have hB3 : B ≤ W3.heap.size := Nat.le_trans hBk g9.size
        clear m0 m1 m2 c1 hm2 ch
      · have al := ow.gr ((Gr.refl W3).alloc (.cells #[.int .u32 x] 39))
        have aM := Mk.alloc (.cells #[.int .u32 x] 39)
        have aR := Rk.alloc (.cells #[.int .u32 x] 39)
        have aG := Gk.alloc (.cells #[.int .u32 x] 39)
        go_wp2_with (at_builtin; refine wp_app_n Try.underlying31 infoC rfl (by decide) rfl (.tmp 40) (.tmp 46) rfl A c' (upto f k) (by rw [upto_len]; rfl) B al W3.heap.size 0 [x] 1 rfl (row_one (At.new W3 #[.int .u32 x] 39)) (by simp) (by rw [upto_len]; simp; omega) (by simp; omega) ?_; intro A' c2 w' ow2 ap2 ex2; rw [upto_len])
        have G2 := ap2.bl aG al hwB
        have M2 := ap2.at al aM (by omega)
        have R2 := ap2.at al aR (by omega)
        have s2 := ap2.size
        simp at s2
        go_roundw
        case rel => exact ⟨k + 1, A', c2, by omega, by simp, by rw [hcn.out]; simp, rfl, by rw [hsuc.out]; exact ow2, M2, R2, G2, by omega⟩
        case measure => simp [intOf]; omega
      · have al := ow.gr ((Gr.refl W3).alloc (.cells #[.int .u32 q] 39))
        have aM := Mk.alloc (.cells #[.int .u32 q] 39)
        have aR := Rk.alloc (.cells #[.int .u32 q] 39)
        have aG := Gk.alloc (.cells #[.int .u32 q] 39)
        go_wp2_with (at_builtin; refine wp_app_n Try.underlying31 infoC rfl (by decide) rfl (.tmp 34) (.tmp 36) rfl A c' (upto f k) (by rw [upto_len]; rfl) B al W3.heap.size 0 [q] 1 rfl (row_one (At.new W3 #[.int .u32 q] 39)) (by simp) (by rw [upto_len]; simp; omega) (by simp; omega) ?_; intro A' c2 w' ow2 ap2 ex2; rw [upto_len])
        have G2 := ap2.bl aG al hwB
        have M2 := ap2.at al aM (by omega)
        have R2 := ap2.at al aR (by omega)
        have s2 := ap2.size
        simp at s2
        go_roundw
        case rel => exact ⟨k + 1, A', c2, by omega, by simp, by rw [hcn.out]; simp, rfl, by rw [hsuc.out]; exact ow2, M2, R2, G2, by omega⟩
        case measure => simp [intOf]; omega
    · obtain rfl : k = n := by omega
      obtain ⟨r0, r1, r2⟩ := cells3 Rk
      obtain ⟨f0, f1, f2, _⟩ := free4 Rk
      have fm := Mk.free 2
      obtain ⟨g, rfl, hgB, _⟩ : ∃ g, A = some ⟨g, 0, none⟩ ∧ B ≤ g ∧ g < wr.heap.size := by
        rcases ow.addr with ⟨_, _, h⟩ | h
        · exfalso; have := upto_len (fun i => if hasL LW (i % W : Nat) (i / W : Nat) then q else L.getD i 0) k; rw [h] at this; simp at this; omega
        · exact h
      have X1 := Mk.put 2 (.slice (some ⟨g, 0, none⟩) k c')
      simp at X1
      have X2 := Rk.far (p := ⟨bm, 2, none⟩) (by simp) (.slice (some ⟨g, 0, none⟩) k c')
      have X3 := Gk.setCell (p := ⟨bm, 2, none⟩) (by simp; omega) (.slice (some ⟨g, 0, none⟩) k c')
      have X4 := ow.row.kept (by_set (by_refl wr _) (p := ⟨bm, 2, none⟩) (.slice (some ⟨g, 0, none⟩) k c')) (by simp; omega)
      go_wp2
      have P := X2.put3 (.int .i64 W) (.int .i64 H) (.slice (some ⟨g, 0, none⟩) k c')
      have G := X3.put3 (k := bm + 1) (by omega) (.int .i64 W) (.int .i64 H) (.slice (some ⟨g, 0, none⟩) k c')
      have C := ((X4.far (p := ⟨bm + 1, 0, none⟩) (by simp; omega) (.int .i64 W)).far (p := ⟨bm + 1, 1, none⟩) (by simp; omega) (.int .i64 H)).far (p := ⟨bm + 1, 2, none⟩) (by simp; omega) (.slice (some ⟨g, 0, none⟩) k c')
      generalize (((wr.setCell ⟨bm, 2, none⟩ (.slice (some ⟨g, 0, none⟩) k c')).setCell ⟨bm + 1, 0, none⟩ (.int .i64 W)).setCell ⟨bm + 1, 1, none⟩ (.int .i64 H)).setCell ⟨bm + 1, 2, none⟩ (.slice (some ⟨g, 0, none⟩) k c') = V at P C G ⊢
      obtain ⟨d0, d1, d2⟩ := cells3 P
      exact bodyPost_ret (v := .tuple #[.agg #[.int .i64 W, .int .i64 H, .slice (some ⟨g, 0, none⟩) k c'], .int .i64 (cntI (fun i => hasL LW (i % W : Nat) (i / W : Nat)) k : Nat)]) (by simp [results, Try.results39, go_sem, d0, d1, d2]) rfl ⟨g, c', rfl, C, by omega, G⟩

set_option maxRecDepth 100000 in
set_option maxHeartbeats 4000000 in
theorem rclear0 {W H b c : Nat} {L : List Int} (w : World) (hR : RowN .u32 w b 0 L) (hl : L.length = W * H) (w1 : 1 ≤ W) (w2 : W ≤ 256) (h1 : 1 ≤ H) (h2 : H ≤ 256) (AW : Option Addr) (cW lW : Nat) (q : Int) (hq : C32 q) (hm : mayC q = false) :
    Calls Try.prog 39 #[.agg #[.int .i64 W, .int .i64 H, .slice (some ⟨b, 0, none⟩) L.length c], .slice AW lW cW, .int .u32 q] w
      (fun e w' => ∃ b' c', e = .returned (.tuple #[.agg #[.int .i64 W, .int .i64 H, .slice (some ⟨b', 0, none⟩) L.length c'], .int .i64 0]) ∧
        RowN .u32 w' b' 0 (upto (fun i => L.getD i 0) L.length) ∧ w.heap.size ≤ b' ∧ Bl w w') := by
  have hle := area_le w2 h2
  have hn0 : 0 < L.length := by rw [hl]; exact Nat.mul_pos w1 h1
  rw [← hl] at hle
  have cm := fun w => refcmay1 q w hq
  rw [hm] at cm
  have hget : ∀ k, k < L.length → L[k]? = some (L.getD k 0) := fun k hk => by rw [List.getD, List.getElem?_eq_getElem hk]; rfl
  obtain ⟨n, hn⟩ : ∃ n, n = L.length := ⟨_, rfl⟩
  rw [← hn] at hle hl hget hn0 ⊢
  have hll := Lib.hid hl
  have hgett := Lib.hid hget
  clear hn hl hget
  have G0 := (((Gr.refl w).alloc (.cells #[.int .i64 W, .int .i64 H, .slice (some ⟨b, 0, none⟩) n c] 34)).alloc (.cells #[.int .i64 0, .int .i64 0, .slice none 0 0] 34))
  have M0 := (At.new w #[.int .i64 W, .int .i64 H, .slice (some ⟨b, 0, none⟩) n c] 34).alloc (.cells #[.int .i64 0, .int .i64 0, .slice none 0 0] 34)
  have R0 := At.newAt (w := w.alloc (.cells #[.int .i64 W, .int .i64 H, .slice (some ⟨b, 0, none⟩) n c] 34)) (n := w.heap.size + 1) (by simp) #[.int .i64 0, .int .i64 0, .slice none 0 0] 34
  go_enter Try.func39, Try.ntmps39
  go_wp2_with fail
  refine (cm _).mono ?_
  rintro e v1 ⟨rfl, g1⟩
  replace G0 := (G0.trans g1).bl
  replace M0 := M0.gr g1
  replace R0 := R0.gr g1
  have bs1 := R0.lt
  obtain ⟨bm, hbm⟩ : ∃ bm, bm = w.heap.size := ⟨_, rfl⟩
  obtain ⟨B, hB⟩ : ∃ B, B = v1.heap.size := ⟨_, rfl⟩
  have bs2 : bm + 1 < B := by omega
  rw [← hbm] at M0 R0 ⊢
  have hBv : B ≤ v1.heap.size := by omega
  have hwm : w.heap.size ≤ bm := by omega
  have hwB : w.heap.size ≤ B := by omega
  clear g1 cm bs1 hbm hB
  go_wp2_with fail
  go_loopw [9, 10, 11] (fun l m i wr => ∃ (k : Nat) (A : Option Addr) (c' : Nat), k ≤ n ∧ i = .int .i64 k ∧ m = .int .i64 0 ∧ l = .slice A k c' ∧
      OwN .u32 39 wr B A c' (upto (fun i => L.getD i 0) k) ∧
      At wr bm #[.int .i64 W, .int .i64 H, .slice (some ⟨b, 0, none⟩) n c] 34 ∧ At wr (bm + 1) #[.int .i64 0, .int .i64 0, .slice none 0 0] 34 ∧ Bl w wr ∧ B ≤ wr.heap.size)
    (fun _ _ i _ => n - (intOf i).toNat)
  case atStart => exact ⟨0, none, 0, Nat.zero_le _, rfl, rfl, rfl, OwN.nil _ _ _ _, M0, R0, G0, hBv⟩
  case round =>
    obtain ⟨k, A, c', hk, rfl, rfl, rfl, ow, Mk, Rk, Gk, hBk⟩ := hrel
    obtain ⟨m0, m1, m2⟩ := cells3 Mk
    by_cases hlt : k < n
    · obtain ⟨d1, d2, d3⟩ := div_of (k := k) (H := H) w1 (by rw [← hll.out]; exact hlt)
      obtain ⟨i, j, hi, hj, x1, x2, x3, x4, x5, x6, x7, x8⟩ := rem_quo k W w1 (by omega)
      have hsuc := Lib.hid (upto_succ (fun i => L.getD i 0) k)
      have hx := hgett.out k hlt
      clear hi hj d1 d2 d3
      generalize L.getD k 0 = x at *
      generalize hfdef : (fun i : Nat => L.getD i 0) = f at *
      have c1 : ∀ wr', Gr wr wr' → wr'.cell? ⟨b, k, none⟩ = some (.int .u32 x) := fun wr' g => by have := (hR.bl (Gk.gr g)) _ _ hx; rwa [Nat.zero_add] at this
      clear hx
      have m0 := fun q os => Mk.cells q os 0; have m1 := fun q os => Mk.cells q os 1; have m2 := fun q os => Mk.cells q os 2
      simp at m0 m1 m2
      have hm2 : wr.cell? ⟨bm, 2, none⟩ = some (.slice (some ⟨b, 0, none⟩) n c) := Mk.cell 2
      go_wp2
      refine wp_region_quiet_grown (by kernel_rfl) (by kernel_rfl) ?_
      repeat (first | go_big_quiet_step (fail) | quiet_step (fail))
      refine wpQuiet_nil ?_
      intro W3 g9
      replace g9 : Gr _ W3 := g9
      have cx := c1 _ g9
      have z2 : W3.cell? ⟨bm, 2, none⟩ = some (.slice (some ⟨b, 0, none⟩) n c) := (Mk.gr g9).cell 2
      replace ow := ow.gr g9
      replace Mk := Mk.gr g9
      replace Rk := Rk.gr g9
      replace Gk := Gk.gr g9
      have hB3 : B ≤ W3.heap.size := Nat.le_trans hBk g9.size
      clear m0 m1 m2 c1 hm2
      have al := ow.gr ((Gr.refl W3).alloc (.cells #[.int .u32 x] 39))
      have aM := Mk.alloc (.cells #[.int .u32 x] 39)
      have aR := Rk.alloc (.cells #[.int .u32 x] 39)
      have aG := Gk.alloc (.cells #[.int .u32 x] 39)
      go_wp2_with (at_builtin; refine wp_app_n Try.underlying31 infoC rfl (by decide) rfl (.tmp 40) (.tmp 46) rfl A c' (upto f k) (by rw [upto_len]; rfl) B al W3.heap.size 0 [x] 1 rfl (row_one (At.new W3 #[.int .u32 x] 39)) (by simp) (by rw [upto_len]; simp; omega) (by simp; omega) ?_; intro A' c2 w' ow2 ap2 ex2; rw [upto_len])
      have G2 := ap2.bl aG al hwB
      have M2 := ap2.at al aM (by omega)
      have R2 := ap2.at al aR (by omega)
      have s2 := ap2.size
      simp at s2
      go_roundw
      case rel => exact ⟨k + 1, A', c2, by omega, by simp, rfl, rfl, by rw [hsuc.out]; exact ow2, M2, R2, G2, by omega⟩
      case measure => simp [intOf]; omega
    · obtain rfl : k = n := by omega
      obtain ⟨r0, r1, r2⟩ := cells3 Rk
      obtain ⟨f0, f1, f2, _⟩ := free4 Rk
      have fm := Mk.free 2
      obtain ⟨g, rfl, hgB, _⟩ : ∃ g, A = some ⟨g, 0, none⟩ ∧ B ≤ g ∧ g < wr.heap.size := by
        rcases ow.addr with ⟨_, _, h⟩ | h
        · exfalso; have := upto_len (fun i => L.getD i 0) k; rw [h] at this; simp at this; omega
        · exact h
      have X1 := Mk.put 2 (.slice (some ⟨g, 0, none⟩) k c')
      simp at X1
      have X2 := Rk.far (p := ⟨bm, 2, none⟩) (by simp) (.slice (some ⟨g, 0, none⟩) k c')
      have X3 := Gk.setCell (p := ⟨bm, 2, none⟩) (by simp; omega) (.slice (some ⟨g, 0, none⟩) k c')
      have X4 := ow.row.kept (by_set (by_refl wr _) (p := ⟨bm, 2, none⟩) (.slice (some ⟨g, 0, none⟩) k c')) (by simp; omega)
      go_wp2
      have P := X2.put3 (.int .i64 W) (.int .i64 H) (.slice (some ⟨g, 0, none⟩) k c')
      have G := X3.put3 (k := bm + 1) (by omega) (.int .i64 W) (.int .i64 H) (.slice (some ⟨g, 0, none⟩) k c')
      have C := ((X4.far (p := ⟨bm + 1, 0, none⟩) (by simp; omega) (.int .i64 W)).far (p := ⟨bm + 1, 1, none⟩) (by simp; omega) (.int .i64 H)).far (p := ⟨bm + 1, 2, none⟩) (by simp; omega) (.slice (some ⟨g, 0, none⟩) k c')
      generalize (((wr.setCell ⟨bm, 2, none⟩ (.slice (some ⟨g, 0, none⟩) k c')).setCell ⟨bm + 1, 0, none⟩ (.int .i64 W)).setCell ⟨bm + 1, 1, none⟩ (.int .i64 H)).setCell ⟨bm + 1, 2, none⟩ (.slice (some ⟨g, 0, none⟩) k c') = V at P C G ⊢
      obtain ⟨d0, d1, d2⟩ := cells3 P
      exact bodyPost_ret (v := .tuple #[.agg #[.int .i64 W, .int .i64 H, .slice (some ⟨g, 0, none⟩) k c'], .int .i64 0]) (by simp [results, Try.results39, go_sem, d0, d1, d2]) rfl ⟨g, c', rfl, C, by omega, G⟩

end Go.Proofs.Ytafceieenhogpaa
