/-
  What is proved: what Copy of the document's images hands back. No conditions but bounds.
-/
import Derived.Test.YtackojmckloacaaJy
namespace Go.Proofs.Ytackojmckloacaa
open Go.RowKit Go.Sort Go.Deep

attribute [local go_sem ↓] run_min2 run_max2

set_option maxRecDepth 100000 in
set_option maxHeartbeats 4000000 in
theorem refCopy1 {W H b cc W2 H2 b2 c2 : Nat} {L L2 : List Int} (w : World) (hR : RowN .u32 w b 0 L) (hR2 : RowN .u32 w b2 0 L2) (hl : L.length = W * H) (hl2 : L2.length = W2 * H2) (w1 : 1 ≤ W) (w2 : W ≤ 256) (h1 : 1 ≤ H) (h2 : H ≤ 256) (w22 : W2 ≤ 256) (h22 : H2 ≤ 256) (p r s t dxr dyr : Int) :
    Calls Try.prog 10 #[.agg #[.int .i64 W, .int .i64 H, .slice (some ⟨b, 0, none⟩) L.length cc], .agg #[.int .i64 W2, .int .i64 H2, .slice (some ⟨b2, 0, none⟩) L2.length c2], .agg #[.int .i64 p, .int .i64 r, .int .i64 s, .int .i64 t], .int .i64 dxr, .int .i64 dyr] w
      (fun e w' => ∃ b' c', e = .returned (.tuple #[.agg #[.int .i64 W, .int .i64 H, .slice (some ⟨b', 0, none⟩) L.length c'], .int .i64 (cpN W H W2 H2 p r s t dxr dyr)]) ∧
        RowN .u32 w' b' 0 (cpL W W2 H2 p r s t dxr dyr L L2) ∧ w.heap.size ≤ b' ∧ Bl w w') := by
  have hle := area_le w2 h2
  have hn0 : 0 < L.length := by rw [hl]; exact Nat.mul_pos w1 h1
  rw [← hl] at hle
  have cat := fun (V : World) (x y : Int) (g : Bl w V) => refAtW (c := c2) V (hR2.bl g) hl2 w22 h22 x y
  have hget : ∀ k, k < L.length → L[k]? = some (L.getD k 0) := fun k hk => by rw [List.getD, List.getElem?_eq_getElem hk]; rfl
  unfold cpN cpL
  rw [← hl]
  have hdx : min (max dxr (-1048576)) 1048576 = clN dxr := rfl
  have hdy : min (max dyr (-1048576)) 1048576 = clN dyr := rfl
  generalize clN dxr = dx at *
  generalize clN dyr = dy at *
  have hdx1 : -1048576 ≤ dx ∧ dx ≤ 1048576 := by omega
  have hdy1 : -1048576 ≤ dy ∧ dy ≤ 1048576 := by omega
  have hcf : ∀ k, cpF W W2 H2 p r s t dx dy L L2 k = if cpP W W2 H2 p r s t dx dy k = true then L2.getD (((k / W : Nat) - dy).toNat * W2 + ((k % W : Nat) - dx).toNat) 0 else L.getD k 0 := fun _ => rfl
  have hcp : ∀ k, cpP W W2 H2 p r s t dx dy k = (hasB 0 0 W2 H2 ((k % W : Nat) - dx) ((k / W : Nat) - dy) && hasB p r s t ((k % W : Nat) - dx) ((k / W : Nat) - dy)) := fun _ => rfl
  have hat : ∀ x y, hasB 0 0 W2 H2 x y = true → atW W2 H2 L2 x y = L2.getD (y.toNat * W2 + x.toNat) 0 := fun x y h => by unfold atW; rw [if_pos h]
  generalize cpF W W2 H2 p r s t dx dy L L2 = f at *
  generalize cpP W W2 H2 p r s t dx dy = pp at *
  obtain ⟨n, hn⟩ : ∃ n, n = L.length := ⟨_, rfl⟩
  rw [← hn] at hle hl hget hn0 ⊢
  obtain ⟨n2, hnn2⟩ : ∃ n2, n2 = L2.length := ⟨_, rfl⟩
  rw [← hnn2] at cat ⊢
  have hll := Lib.hid hl
  have hgett := Lib.hid hget
  replace hcf := Lib.hid hcf
  replace hcp := Lib.hid hcp
  replace hat := Lib.hid hat
  clear hn hl hget hl2 hnn2
  have G0 := (((((Gr.refl w).alloc (.cells #[.int .i64 W, .int .i64 H, .slice (some ⟨b, 0, none⟩) n cc] 25)).alloc (.cells #[.int .i64 W2, .int .i64 H2, .slice (some ⟨b2, 0, none⟩) n2 c2] 25)).alloc (.cells #[.int .i64 p, .int .i64 r, .int .i64 s, .int .i64 t] 32)).alloc (.cells #[.int .i64 0, .int .i64 0, .slice none 0 0] 25))
  have M0 := (((At.new w #[.int .i64 W, .int .i64 H, .slice (some ⟨b, 0, none⟩) n cc] 25).alloc (.cells #[.int .i64 W2, .int .i64 H2, .slice (some ⟨b2, 0, none⟩) n2 c2] 25)).alloc (.cells #[.int .i64 p, .int .i64 r, .int .i64 s, .int .i64 t] 32)).alloc (.cells #[.int .i64 0, .int .i64 0, .slice none 0 0] 25)
  have F0 := ((At.newAt (w := w.alloc (.cells #[.int .i64 W, .int .i64 H, .slice (some ⟨b, 0, none⟩) n cc] 25)) (n := w.heap.size + 1) (by simp) #[.int .i64 W2, .int .i64 H2, .slice (some ⟨b2, 0, none⟩) n2 c2] 25).alloc (.cells #[.int .i64 p, .int .i64 r, .int .i64 s, .int .i64 t] 32)).alloc (.cells #[.int .i64 0, .int .i64 0, .slice none 0 0] 25)
  have E0 := (At.newAt (w := (w.alloc (.cells #[.int .i64 W, .int .i64 H, .slice (some ⟨b, 0, none⟩) n cc] 25)).alloc (.cells #[.int .i64 W2, .int .i64 H2, .slice (some ⟨b2, 0, none⟩) n2 c2] 25)) (n := w.heap.size + 1 + 1) (by simp) #[.int .i64 p, .int .i64 r, .int .i64 s, .int .i64 t] 32).alloc (.cells #[.int .i64 0, .int .i64 0, .slice none 0 0] 25)
  have R0 := At.newAt (w := ((w.alloc (.cells #[.int .i64 W, .int .i64 H, .slice (some ⟨b, 0, none⟩) n cc] 25)).alloc (.cells #[.int .i64 W2, .int .i64 H2, .slice (some ⟨b2, 0, none⟩) n2 c2] 25)).alloc (.cells #[.int .i64 p, .int .i64 r, .int .i64 s, .int .i64 t] 32)) (n := w.heap.size + 1 + 1 + 1) (by simp) #[.int .i64 0, .int .i64 0, .slice none 0 0] 25
  go_enter Try.func10, Try.ntmps10
  obtain ⟨v1, hv1⟩ : ∃ v1, v1 = (((w.alloc (.cells #[.int .i64 W, .int .i64 H, .slice (some ⟨b, 0, none⟩) n cc] 25)).alloc (.cells #[.int .i64 W2, .int .i64 H2, .slice (some ⟨b2, 0, none⟩) n2 c2] 25)).alloc (.cells #[.int .i64 p, .int .i64 r, .int .i64 s, .int .i64 t] 32)).alloc (.cells #[.int .i64 0, .int .i64 0, .slice none 0 0] 25) := ⟨_, rfl⟩
  rw [← hv1] at G0 M0 F0 E0 R0
  have bs1 := R0.lt
  have bs0 := G0.size
  replace G0 := G0.bl
  obtain ⟨bm, hbm⟩ : ∃ bm, bm = w.heap.size := ⟨_, rfl⟩
  obtain ⟨B, hB⟩ : ∃ B, B = v1.heap.size := ⟨_, rfl⟩
  have bs2 : bm + 1 + 1 + 1 < B := by omega
  have hBv : B ≤ v1.heap.size := by omega
  have hwm : w.heap.size ≤ bm := by omega
  have hwB : w.heap.size ≤ B := by omega
  replace hv1 := Lib.hid hv1
  replace hbm := Lib.hid hbm
  clear bs1 bs0 hB
  rw [← hbm.out] at M0 F0 R0 E0
  go_wp2_with fail
  rw [← hv1.out, ← hbm.out]
  clear hv1 hdx hdy
  go_loopw [12, 13, 14, 15, 16, 17, 18] (fun l m i _ _ _ _ wr => ∃ (k : Nat) (A : Option Addr) (c' : Nat), k ≤ n ∧ i = .int .i64 k ∧ m = .int .i64 (cntI pp k : Nat) ∧ l = .slice A k c' ∧
      OwN .u32 30 wr B A c' (upto f k) ∧
      At wr bm #[.int .i64 W, .int .i64 H, .slice (some ⟨b, 0, none⟩) n cc] 25 ∧ At wr (bm + 1) #[.int .i64 W2, .int .i64 H2, .slice (some ⟨b2, 0, none⟩) n2 c2] 25 ∧ At wr (bm + 1 + 1) #[.int .i64 p, .int .i64 r, .int .i64 s, .int .i64 t] 32 ∧ At wr (bm + 1 + 1 + 1) #[.int .i64 0, .int .i64 0, .slice none 0 0] 25 ∧ Bl w wr ∧ B ≤ wr.heap.size)
    (fun _ _ i _ _ _ _ _ => n - (intOf i).toNat)
  case atStart => exact ⟨0, none, 0, Nat.zero_le _, rfl, rfl, rfl, OwN.nil _ _ _ _, M0, F0, E0, R0, G0, hBv⟩
  case round =>
    obtain ⟨k, A, c', hk, rfl, rfl, rfl, ow, Mk, Fk, Ek, Rk, Gk, hBk⟩ := hrel
    obtain ⟨m0, m1, m2⟩ := cells3 Mk
    by_cases hlt : k < n
    · have hk65 : k ≤ 65536 := by omega
      have hk9 : k ≤ 1000000000 := by omega
      obtain ⟨i, j, hi, hj, x1, x2, x3, x4, x5, x6, x7, x8⟩ := rem_quo k W w1 hk9
      have hf := hcf.out k
      have hp := hcp.out k
      have hsucc := upto_succ f k
      have hcnt := cntI_succ pp k
      have hle2 := cntI_le pp k
      rw [← hi, ← hj] at hf hp
      have hi16 : i ≤ 65536 := by rw [hi]; exact Nat.le_trans (Nat.mod_le _ _) hk65
      have hj16 : j ≤ 65536 := by rw [hj]; exact Nat.le_trans (Nat.div_le_self _ _) hk65
      have wx := wrap_sub hi16 hdx1
      have wx2 := wrap_sub2 hi16 hdx1
      have wy2 := wrap_sub2 hj16 hdy1
      have wy := wrap_sub hj16 hdy1
      clear hi hj hk65 hk9 hdx1 hdy1 hi16 hj16
      obtain ⟨px, hpx⟩ : ∃ px, px = (i : Int) - dx := ⟨_, rfl⟩
      obtain ⟨qy, hqy⟩ : ∃ qy, qy = (j : Int) - dy := ⟨_, rfl⟩
      rw [← hpx, ← hqy] at hf hp
      replace wx : IntKind.i64.wrap ((i : Int) - dx) = px := by rw [hpx]; exact wx
      replace wx2 : wrap64 ((i : Int) - dx) = px := by rw [hpx]; exact wx2
      replace wy : IntKind.i64.wrap ((j : Int) - dy) = qy := by rw [hqy]; exact wy
      replace wy2 : wrap64 ((j : Int) - dy) = qy := by rw [hqy]; exact wy2
      have ch := fun w => refhas1 p r s t px qy w
      have hx := hgett.out k hlt
      have hatk := hat.out px qy
      have cA := fun (V : World) (g : Bl w V) => cat V px qy g
      obtain ⟨x, hxe⟩ : ∃ x, x = L.getD k 0 := ⟨_, rfl⟩
      rw [← hxe] at hx hf
      have c1 : ∀ wr', Gr wr wr' → wr'.cell? ⟨b, k, none⟩ = some (.int .u32 x) := fun wr' g => by have := (hR.bl (Gk.gr g)) _ _ hx; rwa [Nat.zero_add] at this
      clear hx cat
      obtain ⟨vA, hvA⟩ : ∃ vA, vA = atW W2 H2 L2 px qy := ⟨_, rfl⟩
      rw [← hvA] at cA hatk
      replace hvA := Lib.hid hvA
      replace hxe := Lib.hid hxe
      replace hf := Lib.hid hf
      replace hp := Lib.hid hp
      replace hatk := Lib.hid hatk
      have hsuc := Lib.hid hsucc
      have hcn := Lib.hid hcnt
      clear hsucc hcnt
      replace hpx := Lib.hid hpx
      replace hqy := Lib.hid hqy
      have fm := cells3 Fk
      obtain ⟨q0, q1, q2⟩ := fm
      go_wp2_with fail
      refine (cA _ Gk).mono ?_
      rintro e W3 ⟨rfl, g9⟩
      have c3 : ∀ V, Gr W3 V → V.cell? ⟨b, k, none⟩ = some (.int .u32 x) := fun V g => c1 V (Gr.trans g9 g)
      replace c3 := Lib.hid c3
      have cx := c1 _ g9
      replace ow := ow.gr g9
      replace Mk := Mk.gr g9
      replace Fk := Fk.gr g9
      replace Ek := Ek.gr g9
      replace Rk := Rk.gr g9
      replace Gk := Gk.gr g9
      have hB3 : B ≤ W3.heap.size := Nat.le_trans hBk g9.size
      clear m0 m1 m2 q0 q1 q2 c1 cA g9
      obtain ⟨e0, e1, e2, e3⟩ := cells4 Ek
      obtain ⟨m0, m1, m2⟩ := cells3 Mk
      cases hin : hasB 0 0 W2 H2 px qy
      · have hfk : f k = x := by rw [hf.out, hp.out, hin]; simp
        have hpk : pp k = false := by rw [hp.out, hin]; simp
        rw [hpk] at hcn
        rw [hfk] at hsuc
        replace hfk := Lib.hid hfk
        replace hpk := Lib.hid hpk
        clear hf hp hatk
        have al := ow.gr ((Gr.refl W3).alloc (.cells #[.int .u32 x] 30))
        have aM := Mk.alloc (.cells #[.int .u32 x] 30)
        have aF := Fk.alloc (.cells #[.int .u32 x] 30)
        have aE := Ek.alloc (.cells #[.int .u32 x] 30)
        have aR := Rk.alloc (.cells #[.int .u32 x] 30)
        have aG := Gk.alloc (.cells #[.int .u32 x] 30)
        go_wp2_with (at_builtin; refine wp_app_n Try.underlying22 infoC rfl (by decide) rfl (.tmp 64) (.tmp 70) rfl A c' (upto f k) (by rw [upto_len]; rfl) B al W3.heap.size 0 [x] 1 rfl (row_one (At.new W3 #[.int .u32 x] 30)) (by simp) (by rw [upto_len]; simp; omega) (by simp; omega) ?_; intro A' c2 w' ow2 ap2 ex2; rw [upto_len])
        have G2 := ap2.bl aG al hwB
        have M2 := ap2.at al aM (by omega)
        have F2 := ap2.at al aF (by omega)
        have E2 := ap2.at al aE (by omega)
        have R2 := ap2.at al aR (by omega)
        have s2 := ap2.size
        simp at s2
        go_roundw
        case rel => exact ⟨k + 1, A', c2, by omega, by simp, by rw [hcn.out]; simp, rfl, by rw [hsuc.out]; exact ow2, M2, F2, E2, R2, G2, by omega⟩
        case measure => simp [intOf]; omega
      · cases hh : hasB p r s t px qy
        · have hfk : f k = x := by rw [hf.out, hp.out, hin, hh]; simp
          have hpk : pp k = false := by rw [hp.out, hin, hh]; simp
          rw [hpk] at hcn
          rw [hfk] at hsuc
          replace hfk := Lib.hid hfk
          replace hpk := Lib.hid hpk
          clear hf hp hatk
          go_wp2_with fail
          refine (ch _).mono ?_
          rw [hh]
          rintro e W4 ⟨rfl, g9⟩
          replace cx := c3.out _ g9
          replace ow := ow.gr g9
          replace Mk := Mk.gr g9
          replace Fk := Fk.gr g9
          replace Ek := Ek.gr g9
          replace Rk := Rk.gr g9
          replace Gk := Gk.gr g9
          replace hB3 : B ≤ W4.heap.size := Nat.le_trans hB3 g9.size
          clear m0 m1 m2 e0 e1 e2 e3 g9
          obtain ⟨m0, m1, m2⟩ := cells3 Mk
          have al := ow.gr ((Gr.refl W4).alloc (.cells #[.int .u32 x] 30))
          have aM := Mk.alloc (.cells #[.int .u32 x] 30)
          have aF := Fk.alloc (.cells #[.int .u32 x] 30)
          have aE := Ek.alloc (.cells #[.int .u32 x] 30)
          have aR := Rk.alloc (.cells #[.int .u32 x] 30)
          have aG := Gk.alloc (.cells #[.int .u32 x] 30)
          go_wp2_with (at_builtin; refine wp_app_n Try.underlying22 infoC rfl (by decide) rfl (.tmp 64) (.tmp 70) rfl A c' (upto f k) (by rw [upto_len]; rfl) B al W4.heap.size 0 [x] 1 rfl (row_one (At.new W4 #[.int .u32 x] 30)) (by simp) (by rw [upto_len]; simp; omega) (by simp; omega) ?_; intro A' c2 w' ow2 ap2 ex2; rw [upto_len])
          have G2 := ap2.bl aG al hwB
          have M2 := ap2.at al aM (by omega)
          have F2 := ap2.at al aF (by omega)
          have E2 := ap2.at al aE (by omega)
          have R2 := ap2.at al aR (by omega)
          have s2 := ap2.size
          simp at s2
          go_roundw
          case rel => exact ⟨k + 1, A', c2, by omega, by simp, by rw [hcn.out]; simp, rfl, by rw [hsuc.out]; exact ow2, M2, F2, E2, R2, G2, by omega⟩
          case measure => simp [intOf]; omega
        · have hfk : f k = vA := by rw [hf.out, hp.out, hin, hh, hatk.out hin]; simp
          have hpk : pp k = true := by rw [hp.out, hin, hh]; simp
          rw [hpk] at hcn
          rw [hfk] at hsuc
          replace hfk := Lib.hid hfk
          replace hpk := Lib.hid hpk
          clear hf hp hatk
          go_wp2_with fail
          refine (ch _).mono ?_
          rw [hh]
          rintro e W4 ⟨rfl, g9⟩
          replace cx := c3.out _ g9
          replace ow := ow.gr g9
          replace Mk := Mk.gr g9
          replace Fk := Fk.gr g9
          replace Ek := Ek.gr g9
          replace Rk := Rk.gr g9
          replace Gk := Gk.gr g9
          replace hB3 : B ≤ W4.heap.size := Nat.le_trans hB3 g9.size
          clear m0 m1 m2 e0 e1 e2 e3 g9
          obtain ⟨m0, m1, m2⟩ := cells3 Mk
          have al := ow.gr ((Gr.refl W4).alloc (.cells #[.int .u32 vA] 30))
          have aM := Mk.alloc (.cells #[.int .u32 vA] 30)
          have aF := Fk.alloc (.cells #[.int .u32 vA] 30)
          have aE := Ek.alloc (.cells #[.int .u32 vA] 30)
          have aR := Rk.alloc (.cells #[.int .u32 vA] 30)
          have aG := Gk.alloc (.cells #[.int .u32 vA] 30)
          go_wp2_with (at_builtin; refine wp_app_n Try.underlying22 infoC rfl (by decide) rfl (.tmp 58) (.tmp 60) rfl A c' (upto f k) (by rw [upto_len]; rfl) B al W4.heap.size 0 [vA] 1 rfl (row_one (At.new W4 #[.int .u32 vA] 30)) (by simp) (by rw [upto_len]; simp; omega) (by simp; omega) ?_; intro A' c2 w' ow2 ap2 ex2; rw [upto_len])
          have G2 := ap2.bl aG al hwB
          have M2 := ap2.at al aM (by omega)
          have F2 := ap2.at al aF (by omega)
          have E2 := ap2.at al aE (by omega)
          have R2 := ap2.at al aR (by omega)
          have s2 := ap2.size
          simp at s2
          go_roundw
          case rel => exact ⟨k + 1, A', c2, by omega, by simp, by rw [hcn.out]; simp, rfl, by rw [hsuc.out]; exact ow2, M2, F2, E2, R2, G2, by omega⟩
          case measure => simp [intOf]; omega
    · obtain rfl : k = n := by omega
      obtain ⟨r0, r1, r2⟩ := cells3 Rk
      obtain ⟨f0, f1, f2, _⟩ := free4 Rk
      have fm := Mk.free 2
      obtain ⟨g, rfl, hgB, _⟩ : ∃ g, A = some ⟨g, 0, none⟩ ∧ B ≤ g ∧ g < wr.heap.size := by
        rcases ow.addr with ⟨_, _, h⟩ | h
        · exfalso; have := upto_len f k; rw [h] at this; simp at this; omega
        · exact h
      have X1 := Mk.put 2 (.slice (some ⟨g, 0, none⟩) k c')
      simp at X1
      have X2 := Rk.far (p := ⟨bm, 2, none⟩) (by simp; omega) (.slice (some ⟨g, 0, none⟩) k c')
      have X3 := Gk.setCell (p := ⟨bm, 2, none⟩) (by simp; omega) (.slice (some ⟨g, 0, none⟩) k c')
      have X4 := ow.row.kept (by_set (by_refl wr _) (p := ⟨bm, 2, none⟩) (.slice (some ⟨g, 0, none⟩) k c')) (by simp; omega)
      go_wp2
      have P := X2.put3 (.int .i64 W) (.int .i64 H) (.slice (some ⟨g, 0, none⟩) k c')
      have G := X3.put3 (k := bm + 1 + 1 + 1) (by omega) (.int .i64 W) (.int .i64 H) (.slice (some ⟨g, 0, none⟩) k c')
      have C := X4.far3 (c := bm + 1 + 1 + 1) (by omega) (.int .i64 W) (.int .i64 H) (.slice (some ⟨g, 0, none⟩) k c')
      generalize (((wr.setCell ⟨bm, 2, none⟩ (.slice (some ⟨g, 0, none⟩) k c')).setCell ⟨bm + 1 + 1 + 1, 0, none⟩ (.int .i64 W)).setCell ⟨bm + 1 + 1 + 1, 1, none⟩ (.int .i64 H)).setCell ⟨bm + 1 + 1 + 1, 2, none⟩ (.slice (some ⟨g, 0, none⟩) k c') = V at P C G ⊢
      obtain ⟨d0, d1, d2⟩ := cells3 P
      exact bodyPost_ret (v := .tuple #[.agg #[.int .i64 W, .int .i64 H, .slice (some ⟨g, 0, none⟩) k c'], .int .i64 (cntI pp k : Nat)]) (by simp [results, Try.results10, go_sem, d0, d1, d2]) rfl ⟨g, c', rfl, C, by omega, G⟩

end Go.Proofs.Ytackojmckloacaa
