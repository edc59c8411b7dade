/-
  What is proved: what the document's Clear and Draw of a layer hand back. No conditions but bounds.
-/
import Derived.Test.YtafceieenhogpaaPd
import Derived.Test.YtafceieenhogpaaZj
import Derived.Test.YtafceieenhogpaaZf
import Derived.Test.YtafceieenhogpaaZc
namespace Go.Proofs.Ytafceieenhogpaa
open Go.RowKit Go.Sort Go.Deep

theorem far_nat {i W : Nat} (h : i < W) (hw : W ≤ 256) : Far (i : Int) := by unfold Far; omega

set_option maxRecDepth 100000 in
set_option maxHeartbeats 4000000 in
theorem rdraw1 {W H b c W2 H2 rb rc n2 : Nat} {L : List Int} (w : World) (hR : RowN .u32 w b 0 L) (hl : L.length = W * H) (w1 : 1 ≤ W) (w2 : W ≤ 256) (h1 : 1 ≤ H) (h2 : H ≤ 256) (ax ay s al : Int) (cp : Rc) (sm : Bool) (M : List Int) (AW : Option Addr) (cW : Nat) (LW : List Rc) (hW : Rs w AW LW) (hlW : LW.length ≤ 1000000) (h32L : ∀ c ∈ L, C32 c) (hn2 : n2 = M.length) (hR2 : RowN .u32 w rb 0 M) (hl2 : M.length = W2 * H2) (h32 : ∀ c ∈ M, C32 c) (hW2 : W2 ≤ 256) (hH2 : H2 ≤ 256) (hs1 : 1 ≤ s) (hs8 : s ≤ 8) (hax : Far ax) (hay : Far ay) :
    Calls Try.prog 38 #[.agg #[.int .i64 W, .int .i64 H, .slice (some ⟨b, 0, none⟩) L.length c], .agg #[.bool sm, .int .i64 W2, .int .i64 H2, .slice (some ⟨rb, 0, none⟩) n2 rc, .int .i64 ax, .int .i64 ay, .int .i64 s, .int .i64 al, .int .i64 cp.a, .int .i64 cp.b, .int .i64 cp.c, .int .i64 cp.d], .slice AW LW.length cW] w
      (fun e w' => ∃ b' c', e = .returned (.tuple #[.agg #[.int .i64 W, .int .i64 H, .slice (some ⟨b', 0, none⟩) L.length c'], .int .i64 (cntI (fun i => (lyHas cp W2 H2 s ax ay (i % W : Nat) (i / W : Nat) && hasL LW (i % W : Nat) (i / W : Nat))) L.length : Nat)]) ∧
        RowN .u32 w' b' 0 (upto (fun i => if (lyHas cp W2 H2 s ax ay (i % W : Nat) (i / W : Nat) && hasL LW (i % W : Nat) (i / W : Nat)) then ov (lyCol cp W2 H2 M s ax ay al (i % W : Nat) (i / W : Nat)) (L.getD i 0) else L.getD i 0) L.length) ∧ w.heap.size ≤ b' ∧ Bl w w') := by
  have hle := area_le w2 h2
  have hn0 : 0 < L.length := by rw [hl]; exact Nat.mul_pos w1 h1
  rw [← hl] at hle
  have cCol := fun (x y : Int) (hx : Far x) (hy : Far y) (w' : World) (g : Bl w w') => rcolor1 (rc := rc) n2 hn2 ax ay s al cp sm x y w' (hR2.bl g) hl2 h32 hW2 hH2 hs1 hs8 hx hy hax hay
  clear hn2 hR2 hl2 h32 hW2 hH2 hs1 hs8 hax hay
  have hcol : ∀ x y, C32 (lyCol cp W2 H2 M s ax ay al x y) := fun x y => by unfold lyCol; split; exact fd_c32 _ _; unfold C32; omega
  have h32x : ∀ k x, L[k]? = some x → C32 x := fun k x h => h32L x (List.mem_of_getElem? h)
  clear h32L
  replace hcol := Lib.hid hcol
  replace h32x := Lib.hid h32x
  have hget : ∀ k, k < L.length → L[k]? = some (L.getD k 0) := fun k hk => by rw [List.getD, List.getElem?_eq_getElem hk]; rfl
  obtain ⟨n, hn⟩ : ∃ n, n = L.length := ⟨_, rfl⟩
  rw [← hn] at hle hl hget hn0 ⊢
  have hll := Lib.hid hl
  have hgett := Lib.hid hget
  clear hn hl hget
  have G0 := ((((Gr.refl w).alloc (.cells #[.int .i64 W, .int .i64 H, .slice (some ⟨b, 0, none⟩) n c] 34)).alloc (.cells #[.bool sm, .int .i64 W2, .int .i64 H2, .slice (some ⟨rb, 0, none⟩) n2 rc, .int .i64 ax, .int .i64 ay, .int .i64 s, .int .i64 al, .int .i64 cp.a, .int .i64 cp.b, .int .i64 cp.c, .int .i64 cp.d] 72)).alloc (.cells #[.int .i64 0, .int .i64 0, .slice none 0 0] 34))
  have M0 := ((At.new w #[.int .i64 W, .int .i64 H, .slice (some ⟨b, 0, none⟩) n c] 34).alloc (.cells #[.bool sm, .int .i64 W2, .int .i64 H2, .slice (some ⟨rb, 0, none⟩) n2 rc, .int .i64 ax, .int .i64 ay, .int .i64 s, .int .i64 al, .int .i64 cp.a, .int .i64 cp.b, .int .i64 cp.c, .int .i64 cp.d] 72)).alloc (.cells #[.int .i64 0, .int .i64 0, .slice none 0 0] 34)
  have E0 := (At.newAt (w := w.alloc (.cells #[.int .i64 W, .int .i64 H, .slice (some ⟨b, 0, none⟩) n c] 34)) (n := w.heap.size + 1) (by simp) #[.bool sm, .int .i64 W2, .int .i64 H2, .slice (some ⟨rb, 0, none⟩) n2 rc, .int .i64 ax, .int .i64 ay, .int .i64 s, .int .i64 al, .int .i64 cp.a, .int .i64 cp.b, .int .i64 cp.c, .int .i64 cp.d] 72).alloc (.cells #[.int .i64 0, .int .i64 0, .slice none 0 0] 34)
  have R0 := At.newAt (w := (w.alloc (.cells #[.int .i64 W, .int .i64 H, .slice (some ⟨b, 0, none⟩) n c] 34)).alloc (.cells #[.bool sm, .int .i64 W2, .int .i64 H2, .slice (some ⟨rb, 0, none⟩) n2 rc, .int .i64 ax, .int .i64 ay, .int .i64 s, .int .i64 al, .int .i64 cp.a, .int .i64 cp.b, .int .i64 cp.c, .int .i64 cp.d] 72)) (n := w.heap.size + 1 + 1) (by simp) #[.int .i64 0, .int .i64 0, .slice none 0 0] 34
  go_enter Try.func38, Try.ntmps38
  replace G0 := G0.bl
  have bs1 := R0.lt
  obtain ⟨bm, hbm⟩ : ∃ bm, bm = w.heap.size := ⟨_, rfl⟩
  obtain ⟨v1, hv1⟩ : ∃ v1, v1 = ((w.alloc (.cells #[.int .i64 W, .int .i64 H, .slice (some ⟨b, 0, none⟩) n c] 34)).alloc (.cells #[.bool sm, .int .i64 W2, .int .i64 H2, .slice (some ⟨rb, 0, none⟩) n2 rc, .int .i64 ax, .int .i64 ay, .int .i64 s, .int .i64 al, .int .i64 cp.a, .int .i64 cp.b, .int .i64 cp.c, .int .i64 cp.d] 72)).alloc (.cells #[.int .i64 0, .int .i64 0, .slice none 0 0] 34) := ⟨_, rfl⟩
  rw [← hv1] at G0 M0 R0 E0 bs1
  obtain ⟨B, hB⟩ : ∃ B, B = v1.heap.size := ⟨_, rfl⟩
  have bs2 : bm + 1 + 1 < B := by omega
  rw [← hbm] at M0 R0 E0
  have hBv : B ≤ v1.heap.size := by omega
  have hwm : w.heap.size ≤ bm := by omega
  have hwB : w.heap.size ≤ B := by omega
  clear bs1 hB
  go_wp2_with fail
  rw [← hv1]
  rw [← hbm]
  clear hv1 hbm
  go_loopw [8, 9, 10] (fun l m i wr => ∃ (k : Nat) (A : Option Addr) (c' : Nat), k ≤ n ∧ i = .int .i64 k ∧ m = .int .i64 (cntI (fun i => (lyHas cp W2 H2 s ax ay (i % W : Nat) (i / W : Nat) && hasL LW (i % W : Nat) (i / W : Nat))) k : Nat) ∧ l = .slice A k c' ∧
      OwN .u32 39 wr B A c' (upto (fun i => if (lyHas cp W2 H2 s ax ay (i % W : Nat) (i / W : Nat) && hasL LW (i % W : Nat) (i / W : Nat)) then ov (lyCol cp W2 H2 M s ax ay al (i % W : Nat) (i / W : Nat)) (L.getD i 0) else L.getD i 0) k) ∧
      At wr bm #[.int .i64 W, .int .i64 H, .slice (some ⟨b, 0, none⟩) n c] 34 ∧ At wr (bm + 1) #[.bool sm, .int .i64 W2, .int .i64 H2, .slice (some ⟨rb, 0, none⟩) n2 rc, .int .i64 ax, .int .i64 ay, .int .i64 s, .int .i64 al, .int .i64 cp.a, .int .i64 cp.b, .int .i64 cp.c, .int .i64 cp.d] 72 ∧ At wr (bm + 1 + 1) #[.int .i64 0, .int .i64 0, .slice none 0 0] 34 ∧ Bl w wr ∧ B ≤ wr.heap.size)
    (fun _ _ i _ => n - (intOf i).toNat)
  case atStart => exact ⟨0, none, 0, Nat.zero_le _, rfl, rfl, rfl, OwN.nil _ _ _ _, M0, E0, R0, G0, hBv⟩
  case round =>
    obtain ⟨k, A, c', hk, rfl, rfl, rfl, ow, Mk, Ek, Rk, Gk, hBk⟩ := hrel
    obtain ⟨m0, m1, m2⟩ := cells3 Mk
    by_cases hlt : k < n
    · obtain ⟨d1, d2, d3⟩ := div_of (k := k) (H := H) w1 (by rw [← hll.out]; exact hlt)
      obtain ⟨i, j, hi, hj, x1, x2, x3, x4, x5, x6, x7, x8⟩ := rem_quo k W w1 (by omega)
      have hs : (lyHas cp W2 H2 s ax ay (k % W : Nat) (k / W : Nat) && hasL LW (k % W : Nat) (k / W : Nat)) = (lyHas cp W2 H2 s ax ay i j && hasL LW i j) := by rw [hi, hj]
      have hsq : lyCol cp W2 H2 M s ax ay al (k % W : Nat) (k / W : Nat) = lyCol cp W2 H2 M s ax ay al i j := by rw [hi, hj]
      have hi9 : Far (i : Int) := far_nat (by rw [← hi] at d1; exact d1) w2
      have hj9 : Far (j : Int) := far_nat (by rw [← hj] at d2; exact d2) h2
      have ch := fun (w' : World) (g : Bl w w') => refHas1 AW cW LW i j w' (hW.bl g) (Nat.le_trans hlW (by decide))
      have cc := cCol i j hi9 hj9
      have hsucc := upto_succ (fun i => if (lyHas cp W2 H2 s ax ay (i % W : Nat) (i / W : Nat) && hasL LW (i % W : Nat) (i / W : Nat)) then ov (lyCol cp W2 H2 M s ax ay al (i % W : Nat) (i / W : Nat)) (L.getD i 0) else L.getD i 0) k
      have hcnt := cntI_succ (fun i => (lyHas cp W2 H2 s ax ay (i % W : Nat) (i / W : Nat) && hasL LW (i % W : Nat) (i / W : Nat))) k
      have hle2 := cntI_le (fun i => (lyHas cp W2 H2 s ax ay (i % W : Nat) (i / W : Nat) && hasL LW (i % W : Nat) (i / W : Nat))) k
      rw [hs, hsq] at hsucc
      rw [hs] at hcnt
      clear hi hj d1 d2 d3 hs hsq hi9 hj9
      have hx := hgett.out k hlt
      have hx32 := h32x.out k _ hx
      have hc32 := hcol.out (i : Int) (j : Int)
      generalize L.getD k 0 = x at *
      have hsuc := Lib.hid hsucc
      have hcn := Lib.hid hcnt
      clear hsucc hcnt
      generalize lyCol cp W2 H2 M s ax ay al i j = cl9 at *
      generalize (fun i : Nat => if (lyHas cp W2 H2 s ax ay (i % W : Nat) (i / W : Nat) && hasL LW (i % W : Nat) (i / W : Nat)) then ov (lyCol cp W2 H2 M s ax ay al (i % W : Nat) (i / W : Nat)) (L.getD i 0) else L.getD i 0) = f at *
      generalize (fun i : Nat => (lyHas cp W2 H2 s ax ay (i % W : Nat) (i / W : Nat) && hasL LW (i % W : Nat) (i / W : Nat))) = pp at *
      have c1 : ∀ wr', Bl wr wr' → wr'.cell? ⟨b, k, none⟩ = some (.int .u32 x) := fun wr' g => by have := (hR.bl (Gk.trans g)) _ _ hx; rwa [Nat.zero_add] at this
      clear hx
      have e0 : wr.cell? ⟨bm + 1, 0, none⟩ = some (.bool sm) := Ek.cell 0
      have e1 : wr.cell? ⟨bm + 1, 1, none⟩ = some (.int .i64 W2) := Ek.cell 1
      have e2 : wr.cell? ⟨bm + 1, 2, none⟩ = some (.int .i64 H2) := Ek.cell 2
      have e3 : wr.cell? ⟨bm + 1, 3, none⟩ = some (.slice (some ⟨rb, 0, none⟩) n2 rc) := Ek.cell 3
      have e4 : wr.cell? ⟨bm + 1, 4, none⟩ = some (.int .i64 ax) := Ek.cell 4
      have e5 : wr.cell? ⟨bm + 1, 5, none⟩ = some (.int .i64 ay) := Ek.cell 5
      have e6 : wr.cell? ⟨bm + 1, 6, none⟩ = some (.int .i64 s) := Ek.cell 6
      have e7 : wr.cell? ⟨bm + 1, 7, none⟩ = some (.int .i64 al) := Ek.cell 7
      have e8 : wr.cell? ⟨bm + 1, 8, none⟩ = some (.int .i64 cp.a) := Ek.cell 8
      have e9 : wr.cell? ⟨bm + 1, 9, none⟩ = some (.int .i64 cp.b) := Ek.cell 9
      have e10 : wr.cell? ⟨bm + 1, 10, none⟩ = some (.int .i64 cp.c) := Ek.cell 10
      have e11 : wr.cell? ⟨bm + 1, 11, none⟩ = some (.int .i64 cp.d) := Ek.cell 11
      go_wp2_with fail
      refine (cc _ Gk).mono ?_
      rintro e u2 ⟨rfl, g2⟩
      replace c1 : ∀ wr', Bl u2 wr' → wr'.cell? ⟨b, k, none⟩ = some (.int .u32 x) := fun wr' g => c1 wr' (g2.bl.trans g)
      replace ow := ow.gr g2
      replace Mk := Mk.gr g2
      replace Ek := Ek.gr g2
      replace Rk := Rk.gr g2
      replace Gk := Gk.gr g2
      have hsz := g2.size
      clear cc m0 m1 m2 e0 e1 e2 e3 e4 e5 e6 e7 e8 e9 e10 e11 g2
      obtain ⟨m0, m1, m2⟩ := cells3 Mk
      cases hh : lyHas cp W2 H2 s ax ay i j
      · rw [hh] at hsuc hcn
        have cx := c1 u2 (Bl.refl _)
        have al := ow.gr ((Gr.refl u2).alloc (.cells #[.int .u32 x] 39))
        have aM := Mk.alloc (.cells #[.int .u32 x] 39)
        have aE := Ek.alloc (.cells #[.int .u32 x] 39)
        have aR := Rk.alloc (.cells #[.int .u32 x] 39)
        have aG := Gk.alloc (.cells #[.int .u32 x] 39)
        have s0 : B ≤ u2.heap.size := Nat.le_trans hBk hsz
        go_wp2_with (at_builtin; refine wp_app_n Try.underlying31 infoC rfl (by decide) rfl (.tmp 56) (.tmp 62) rfl A c' (upto f k) (by rw [upto_len]; rfl) B al u2.heap.size 0 [x] 1 rfl (row_one (At.new u2 #[.int .u32 x] 39)) (by simp) (by rw [upto_len]; simp; omega) (by simp; omega) ?_; intro A' c2 w' ow2 ap2 ex2; rw [upto_len])
        have GG2 := ap2.bl aG al hwB
        have MM2 := ap2.at al aM (by omega)
        have EE2 := ap2.at al aE (by omega)
        have RR2 := ap2.at al aR (by omega)
        have s2 := ap2.size
        simp at s2
        go_roundw
        case rel => exact ⟨k + 1, A', c2, by omega, by simp, by rw [hcn.out]; simp, rfl, by rw [hsuc.out]; exact ow2, MM2, EE2, RR2, GG2, by omega⟩
        case measure => simp [intOf]; omega
      · rw [hh] at hsuc hcn
        go_wp2_with fail
        refine (ch _ Gk).mono ?_
        rintro e u3 ⟨rfl, g3⟩
        replace c1 : ∀ wr', Bl u3 wr' → wr'.cell? ⟨b, k, none⟩ = some (.int .u32 x) := fun wr' g => c1 wr' (g3.bl.trans g)
        replace ow := ow.gr g3
        replace Mk := Mk.gr g3
        replace Ek := Ek.gr g3
        replace Rk := Rk.gr g3
        replace Gk := Gk.gr g3
        replace hsz := Nat.le_trans hsz g3.size
        clear m0 m1 m2 g3
        obtain ⟨m0, m1, m2⟩ := cells3 Mk
        have cx := c1 u3 (Bl.refl _)
        cases hh2 : hasL LW i j
        · rw [hh2] at hsuc hcn
          have al := ow.gr ((Gr.refl u3).alloc (.cells #[.int .u32 x] 39))
          have aM := Mk.alloc (.cells #[.int .u32 x] 39)
          have aE := Ek.alloc (.cells #[.int .u32 x] 39)
          have aR := Rk.alloc (.cells #[.int .u32 x] 39)
          have aG := Gk.alloc (.cells #[.int .u32 x] 39)
          have s0 : B ≤ u3.heap.size := Nat.le_trans hBk hsz
          go_wp2_with (at_builtin; refine wp_app_n Try.underlying31 infoC rfl (by decide) rfl (.tmp 56) (.tmp 62) rfl A c' (upto f k) (by rw [upto_len]; rfl) B al u3.heap.size 0 [x] 1 rfl (row_one (At.new u3 #[.int .u32 x] 39)) (by simp) (by rw [upto_len]; simp; omega) (by simp; omega) ?_; intro A' c2 w' ow2 ap2 ex2; rw [upto_len])
          have GG2 := ap2.bl aG al hwB
          have MM2 := ap2.at al aM (by omega)
          have EE2 := ap2.at al aE (by omega)
          have RR2 := ap2.at al aR (by omega)
          have s2 := ap2.size
          simp at s2
          go_roundw
          case rel => exact ⟨k + 1, A', c2, by omega, by simp, by rw [hcn.out]; simp, rfl, by rw [hsuc.out]; exact ow2, MM2, EE2, RR2, GG2, by omega⟩
          case measure => simp [intOf]; omega
        · rw [hh2] at hsuc hcn
          go_wp2_with fail
          refine (refover1 cl9 x _ hc32 hx32).mono ?_
          rintro e u4 ⟨rfl, g4⟩
          generalize ov cl9 x = ox at *
          replace ow := ow.gr g4
          replace Mk := Mk.gr g4
          replace Ek := Ek.gr g4
          replace Rk := Rk.gr g4
          replace Gk := Gk.gr g4
          replace hsz := Nat.le_trans hsz g4.size
          clear m0 m1 m2 g4 c1 cx
          have al := ow.gr ((Gr.refl u4).alloc (.cells #[.int .u32 ox] 39))
          have aM := Mk.alloc (.cells #[.int .u32 ox] 39)
          have aE := Ek.alloc (.cells #[.int .u32 ox] 39)
          have aR := Rk.alloc (.cells #[.int .u32 ox] 39)
          have aG := Gk.alloc (.cells #[.int .u32 ox] 39)
          have s0 : B ≤ u4.heap.size := Nat.le_trans hBk hsz
          go_wp2_with (at_builtin; refine wp_app_n Try.underlying31 infoC rfl (by decide) rfl (.tmp 44) (.tmp 52) rfl A c' (upto f k) (by rw [upto_len]; rfl) B al u4.heap.size 0 [ox] 1 rfl (row_one (At.new u4 #[.int .u32 ox] 39)) (by simp) (by rw [upto_len]; simp; omega) (by simp; omega) ?_; intro A' c2 w' ow2 ap2 ex2; rw [upto_len])
          have GG2 := ap2.bl aG al hwB
          have MM2 := ap2.at al aM (by omega)
          have EE2 := ap2.at al aE (by omega)
          have RR2 := ap2.at al aR (by omega)
          have s2 := ap2.size
          simp at s2
          go_roundw
          case rel => exact ⟨k + 1, A', c2, by omega, by simp, by rw [hcn.out]; simp, rfl, by rw [hsuc.out]; exact ow2, MM2, EE2, RR2, GG2, by omega⟩
          case measure => simp [intOf]; omega
    · obtain rfl : k = n := by omega
      obtain ⟨r0, r1, r2⟩ := cells3 Rk
      obtain ⟨f0, f1, f2, _⟩ := free4 Rk
      have fm := Mk.free 2
      obtain ⟨g, rfl, hgB, _⟩ : ∃ g, A = some ⟨g, 0, none⟩ ∧ B ≤ g ∧ g < wr.heap.size := by
        rcases ow.addr with ⟨_, _, h⟩ | h
        · exfalso; have := upto_len (fun i => if (lyHas cp W2 H2 s ax ay (i % W : Nat) (i / W : Nat) && hasL LW (i % W : Nat) (i / W : Nat)) then ov (lyCol cp W2 H2 M s ax ay al (i % W : Nat) (i / W : Nat)) (L.getD i 0) else L.getD i 0) k; rw [h] at this; simp at this; omega
        · exact h
      have X1 := Mk.put 2 (.slice (some ⟨g, 0, none⟩) k c')
      simp at X1
      have X2 := Rk.far (p := ⟨bm, 2, none⟩) (by simp; omega) (.slice (some ⟨g, 0, none⟩) k c')
      have X3 := Gk.setCell (p := ⟨bm, 2, none⟩) (by simp; omega) (.slice (some ⟨g, 0, none⟩) k c')
      have X4 := ow.row.kept (by_set (by_refl wr _) (p := ⟨bm, 2, none⟩) (.slice (some ⟨g, 0, none⟩) k c')) (by simp; omega)
      go_wp2
      have P := X2.put3 (.int .i64 W) (.int .i64 H) (.slice (some ⟨g, 0, none⟩) k c')
      have G := X3.put3 (k := bm + 1 + 1) (by omega) (.int .i64 W) (.int .i64 H) (.slice (some ⟨g, 0, none⟩) k c')
      have C := ((X4.far (p := ⟨bm + 1 + 1, 0, none⟩) (by simp; omega) (.int .i64 W)).far (p := ⟨bm + 1 + 1, 1, none⟩) (by simp; omega) (.int .i64 H)).far (p := ⟨bm + 1 + 1, 2, none⟩) (by simp; omega) (.slice (some ⟨g, 0, none⟩) k c')
      generalize (((wr.setCell ⟨bm, 2, none⟩ (.slice (some ⟨g, 0, none⟩) k c')).setCell ⟨bm + 1 + 1, 0, none⟩ (.int .i64 W)).setCell ⟨bm + 1 + 1, 1, none⟩ (.int .i64 H)).setCell ⟨bm + 1 + 1, 2, none⟩ (.slice (some ⟨g, 0, none⟩) k c') = V at P C G ⊢
      obtain ⟨d0, d1, d2⟩ := cells3 P
      exact bodyPost_ret (v := .tuple #[.agg #[.int .i64 W, .int .i64 H, .slice (some ⟨g, 0, none⟩) k c'], .int .i64 (cntI (fun i => (lyHas cp W2 H2 s ax ay (i % W : Nat) (i / W : Nat) && hasL LW (i % W : Nat) (i / W : Nat))) k : Nat)]) (by simp [results, Try.results38, go_sem, d0, d1, d2]) rfl ⟨g, c', rfl, C, by omega, G⟩

end Go.Proofs.Ytafceieenhogpaa
