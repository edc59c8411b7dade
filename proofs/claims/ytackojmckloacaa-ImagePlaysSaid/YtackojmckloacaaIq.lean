/-
  What is proved: what the document's Fill hands back.
-/
import Derived.Test.YtackojmckloacaaIg
import Derived.Test.YtackojmckloacaaIx
namespace Go.Proofs.Ytackojmckloacaa
open Go.RowKit Go.Sort Go.Deep

/-- f 0, .., f (k - 1). -/
def upto (f : Nat → Int) (k : Nat) : List Int := (List.range k).map f
theorem upto_succ (f : Nat → Int) (k : Nat) : upto f (k + 1) = upto f k ++ [f k] := by simp [upto, List.range_succ]
theorem upto_len (f : Nat → Int) (k : Nat) : (upto f k).length = k := by simp [upto]
theorem upto_get (f : Nat → Int) (k i : Nat) : (upto f k)[i]? = if i < k then some (f i) else none := by
  unfold upto
  rw [List.getElem?_map]
  by_cases h : i < k
  · rw [if_pos h, List.getElem?_range h]; rfl
  · rw [if_neg h, List.getElem?_eq_none (by simp; omega)]; rfl
/-- How many of the first k are so. -/
def cntI (p : Nat → Bool) (k : Nat) : Nat := ((List.range k).filter p).length
theorem cntI_succ (p : Nat → Bool) (k : Nat) : cntI p (k + 1) = cntI p k + if p k then 1 else 0 := by
  unfold cntI; rw [List.range_succ, List.filter_append, List.length_append]
  cases h : p k <;> simp [h]
theorem Gr.put3 {a w : World} (h : Gr a w) {k : Nat} (hk : a.heap.size ≤ k) (u0 u1 u2 : Value) : Gr a (((w.setCell ⟨k, 0, none⟩ u0).setCell ⟨k, 1, none⟩ u1).setCell ⟨k, 2, none⟩ u2) :=
  ((h.setCell (p := ⟨k, 0, none⟩) hk u0).setCell (p := ⟨k, 1, none⟩) hk u1).setCell (p := ⟨k, 2, none⟩) hk u2
theorem RowN.far {k : IntKind} {w : World} {b off : Nat} {L : List Int} (h : RowN k w b off L) {p : Addr} (hp : b ≠ p.block) (u : Value) : RowN k (w.setCell p u) b off L :=
  h.kept (by_set (by_refl w _) (p := p) u) (by simp; exact hp)
theorem RowN.far3 {k : IntKind} {w : World} {b off : Nat} {L : List Int} (h : RowN k w b off L) {c : Nat} (hp : b ≠ c) (u0 u1 u2 : Value) : RowN k (((w.setCell ⟨c, 0, none⟩ u0).setCell ⟨c, 1, none⟩ u1).setCell ⟨c, 2, none⟩ u2) b off L :=
  ((h.far (p := ⟨c, 0, none⟩) hp u0).far (p := ⟨c, 1, none⟩) hp u1).far (p := ⟨c, 2, none⟩) hp u2
theorem cntI_le (p : Nat → Bool) (k : Nat) : cntI p k ≤ k := by
  have := List.length_filter_le p (List.range k); rw [List.length_range] at this; exact this

set_option maxRecDepth 100000 in
set_option maxHeartbeats 2000000 in
theorem refFill0 {W H b c n : Nat} (w : World) (p r s t : Int) (q : Int) (hq : C32 q) (hm : mayC q = false) :
    Calls Try.prog 8 #[.agg #[.int .i64 W, .int .i64 H, .slice (some ⟨b, 0, none⟩) n c], .agg #[.int .i64 p, .int .i64 r, .int .i64 s, .int .i64 t], .int .u32 q] w
      (Rt w (.tuple #[.agg #[.int .i64 W, .int .i64 H, .slice (some ⟨b, 0, none⟩) n c], .int .i64 0])) := by
  have cm := fun w => refcmay1 q w hq
  rw [hm] at cm
  have G0 := ((((Gr.refl w).alloc (.cells #[.int .i64 W, .int .i64 H, .slice (some ⟨b, 0, none⟩) n c] 25)).alloc (.cells #[.int .i64 p, .int .i64 r, .int .i64 s, .int .i64 t] 32)).alloc (.cells #[.int .i64 0, .int .i64 0, .slice none 0 0] 25))
  have M0 := ((At.new w #[.int .i64 W, .int .i64 H, .slice (some ⟨b, 0, none⟩) n c] 25).alloc (.cells #[.int .i64 p, .int .i64 r, .int .i64 s, .int .i64 t] 32)).alloc (.cells #[.int .i64 0, .int .i64 0, .slice none 0 0] 25)
  have R0 := At.newAt (w := (w.alloc (.cells #[.int .i64 W, .int .i64 H, .slice (some ⟨b, 0, none⟩) n c] 25)).alloc (.cells #[.int .i64 p, .int .i64 r, .int .i64 s, .int .i64 t] 32)) (n := w.heap.size + 1 + 1) (by simp) #[.int .i64 0, .int .i64 0, .slice none 0 0] 25
  go_enter Try.func8, Try.ntmps8
  go_wp2_with fail
  refine (cm _).mono ?_
  rintro e w1 ⟨rfl, g1⟩
  replace G0 := G0.trans g1
  obtain ⟨m0, m1, m2⟩ := cells3 (M0.gr g1)
  replace R0 := R0.gr g1
  obtain ⟨r0, r1, r2⟩ := cells3 R0
  obtain ⟨f0, f1, f2, _⟩ := free4 R0
  clear g1 cm M0
  go_wp2
  have P := R0.put3 (.int .i64 W) (.int .i64 H) (.slice (some ⟨b, 0, none⟩) n c)
  have G := G0.put3 (k := w.heap.size + 1 + 1) (by omega) (.int .i64 W) (.int .i64 H) (.slice (some ⟨b, 0, none⟩) n c)
  generalize ((w1.setCell ⟨w.heap.size + 1 + 1, 0, none⟩ (.int .i64 W)).setCell ⟨w.heap.size + 1 + 1, 1, none⟩ (.int .i64 H)).setCell ⟨w.heap.size + 1 + 1, 2, none⟩ (.slice (some ⟨b, 0, none⟩) n c) = V at P G ⊢
  obtain ⟨d0, d1, d2⟩ := cells3 P
  exact bodyPost_ret (v := .tuple #[.agg #[.int .i64 W, .int .i64 H, .slice (some ⟨b, 0, none⟩) n c], .int .i64 0]) (by simp [results, Try.results8, go_sem, d0, d1, d2]) rfl ⟨rfl, G⟩

set_option maxRecDepth 100000 in
set_option maxHeartbeats 4000000 in
theorem refFill1 {W H b c : Nat} {L : List Int} (w : World) (hR : RowN .u32 w b 0 L) (hl : L.length = W * H) (w1 : 1 ≤ W) (w2 : W ≤ 256) (h1 : 1 ≤ H) (h2 : H ≤ 256) (p r s t : Int) (q : Int) (hq : C32 q) (hm : mayC q = true) :
    Calls Try.prog 8 #[.agg #[.int .i64 W, .int .i64 H, .slice (some ⟨b, 0, none⟩) L.length c], .agg #[.int .i64 p, .int .i64 r, .int .i64 s, .int .i64 t], .int .u32 q] w
      (fun e w' => ∃ b' c', e = .returned (.tuple #[.agg #[.int .i64 W, .int .i64 H, .slice (some ⟨b', 0, none⟩) L.length c'], .int .i64 (cntI (fun i => hasB p r s t (i % W : Nat) (i / W : Nat)) L.length : Nat)]) ∧
        RowN .u32 w' b' 0 (upto (fun i => if hasB p r s t (i % W : Nat) (i / W : Nat) then q else L.getD i 0) L.length) ∧ w.heap.size ≤ b' ∧ Bl w w') := by
  have hle := area_le w2 h2
  have hn0 : 0 < L.length := by rw [hl]; exact Nat.mul_pos w1 h1
  rw [← hl] at hle
  have cm := fun w => refcmay1 q w hq
  rw [hm] at cm
  have hget : ∀ k, k < L.length → L[k]? = some (L.getD k 0) := fun k hk => by rw [List.getD, List.getElem?_eq_getElem hk]; rfl
  obtain ⟨n, hn⟩ : ∃ n, n = L.length := ⟨_, rfl⟩
  rw [← hn] at hle hl hget hn0 ⊢
  have hll := Lib.hid hl
  have hgett := Lib.hid hget
  clear hn hl hget
  have G0 := ((((Gr.refl w).alloc (.cells #[.int .i64 W, .int .i64 H, .slice (some ⟨b, 0, none⟩) n c] 25)).alloc (.cells #[.int .i64 p, .int .i64 r, .int .i64 s, .int .i64 t] 32)).alloc (.cells #[.int .i64 0, .int .i64 0, .slice none 0 0] 25))
  have M0 := ((At.new w #[.int .i64 W, .int .i64 H, .slice (some ⟨b, 0, none⟩) n c] 25).alloc (.cells #[.int .i64 p, .int .i64 r, .int .i64 s, .int .i64 t] 32)).alloc (.cells #[.int .i64 0, .int .i64 0, .slice none 0 0] 25)
  have E0 := (At.newAt (w := w.alloc (.cells #[.int .i64 W, .int .i64 H, .slice (some ⟨b, 0, none⟩) n c] 25)) (n := w.heap.size + 1) (by simp) #[.int .i64 p, .int .i64 r, .int .i64 s, .int .i64 t] 32).alloc (.cells #[.int .i64 0, .int .i64 0, .slice none 0 0] 25)
  have R0 := At.newAt (w := (w.alloc (.cells #[.int .i64 W, .int .i64 H, .slice (some ⟨b, 0, none⟩) n c] 25)).alloc (.cells #[.int .i64 p, .int .i64 r, .int .i64 s, .int .i64 t] 32)) (n := w.heap.size + 1 + 1) (by simp) #[.int .i64 0, .int .i64 0, .slice none 0 0] 25
  go_enter Try.func8, Try.ntmps8
  go_wp2_with fail
  refine (cm _).mono ?_
  rintro e v1 ⟨rfl, g1⟩
  replace G0 := (G0.trans g1).bl
  replace M0 := M0.gr g1
  replace R0 := R0.gr g1
  replace E0 := E0.gr g1
  have bs1 := R0.lt
  obtain ⟨bm, hbm⟩ : ∃ bm, bm = w.heap.size := ⟨_, rfl⟩
  obtain ⟨B, hB⟩ : ∃ B, B = v1.heap.size := ⟨_, rfl⟩
  have bs2 : bm + 1 + 1 < B := by omega
  rw [← hbm] at M0 R0 E0 ⊢
  have hBv : B ≤ v1.heap.size := by omega
  have hwm : w.heap.size ≤ bm := by omega
  have hwB : w.heap.size ≤ B := by omega
  clear g1 cm bs1 hbm hB
  go_wp2_with fail
  go_loopw [9, 10, 11] (fun l m i wr => ∃ (k : Nat) (A : Option Addr) (c' : Nat), k ≤ n ∧ i = .int .i64 k ∧ m = .int .i64 (cntI (fun i => hasB p r s t (i % W : Nat) (i / W : Nat)) k : Nat) ∧ l = .slice A k c' ∧
      OwN .u32 30 wr B A c' (upto (fun i => if hasB p r s t (i % W : Nat) (i / W : Nat) then q else L.getD i 0) k) ∧
      At wr bm #[.int .i64 W, .int .i64 H, .slice (some ⟨b, 0, none⟩) n c] 25 ∧ At wr (bm + 1) #[.int .i64 p, .int .i64 r, .int .i64 s, .int .i64 t] 32 ∧ At wr (bm + 1 + 1) #[.int .i64 0, .int .i64 0, .slice none 0 0] 25 ∧ Bl w wr ∧ B ≤ wr.heap.size)
    (fun _ _ i _ => n - (intOf i).toNat)
  case atStart => exact ⟨0, none, 0, Nat.zero_le _, rfl, rfl, rfl, OwN.nil _ _ _ _, M0, E0, R0, G0, hBv⟩
  case round =>
    obtain ⟨k, A, c', hk, rfl, rfl, rfl, ow, Mk, Ek, Rk, Gk, hBk⟩ := hrel
    obtain ⟨m0, m1, m2⟩ := cells3 Mk
    by_cases hlt : k < n
    · obtain ⟨d1, d2, d3⟩ := div_of (k := k) (H := H) w1 (by rw [← hll.out]; exact hlt)
      obtain ⟨i, j, hi, hj, x1, x2, x3, x4, x5, x6, x7, x8⟩ := rem_quo k W w1 (by omega)
      have hs : hasB p r s t (k % W : Nat) (k / W : Nat) = hasB p r s t i j := by rw [hi, hj]
      have ch := fun w => refhas1 p r s t i j w
      have hsucc := upto_succ (fun i => if hasB p r s t (i % W : Nat) (i / W : Nat) then q else L.getD i 0) k
      have hcnt := cntI_succ (fun i => hasB p r s t (i % W : Nat) (i / W : Nat)) k
      have hle2 := cntI_le (fun i => hasB p r s t (i % W : Nat) (i / W : Nat)) k
      rw [hs] at hsucc hcnt
      clear hi hj d1 d2 d3 hs
      have hx := hgett.out k hlt
      generalize L.getD k 0 = x at *
      have c1 : ∀ wr', Gr wr wr' → wr'.cell? ⟨b, k, none⟩ = some (.int .u32 x) := fun wr' g => by have := (hR.bl (Gk.gr g)) _ _ hx; rwa [Nat.zero_add] at this
      clear hx
      have hsuc := Lib.hid hsucc
      have hcn := Lib.hid hcnt
      clear hsucc hcnt
      generalize hfdef : (fun i : Nat => if hasB p r s t (i % W : Nat) (i / W : Nat) then q else L.getD i 0) = f at *
      generalize (fun i : Nat => hasB p r s t (i % W : Nat) (i / W : Nat)) = pp at *
      have m0 := fun q os => Mk.cells q os 0; have m1 := fun q os => Mk.cells q os 1; have m2 := fun q os => Mk.cells q os 2
      have e0 := fun q os => Ek.cells q os 0; have e1 := fun q os => Ek.cells q os 1; have e2 := fun q os => Ek.cells q os 2; have e3 := fun q os => Ek.cells q os 3
      simp at m0 m1 m2 e0 e1 e2 e3
      have hm2 : wr.cell? ⟨bm, 2, none⟩ = some (.slice (some ⟨b, 0, none⟩) n c) := Mk.cell 2
      cases hh : hasB p r s t i j
      all_goals
        rw [hh] at ch hsuc hcn
        go_wp2
        refine wp_region_quiet_grown (by kernel_rfl) (by kernel_rfl) ?_
        repeat (first | go_big_quiet_step ((go_at_call 26; exact Calls.grown (ch _))) | quiet_step ((go_at_call 26; exact Calls.grown (ch _))))
        refine wpQuiet_nil ?_
        intro W3 g9
        replace g9 : Gr _ W3 := g9
        have cx := c1 _ g9
        have z2 : W3.cell? ⟨bm, 2, none⟩ = some (.slice (some ⟨b, 0, none⟩) n c) := (Mk.gr g9).cell 2
        replace ow := ow.gr g9
        replace Mk := Mk.gr g9
        replace Ek := Ek.gr g9
        replace Rk := Rk.gr g9
        replace Gk := Gk.gr g9
        have hB3 : B ≤ W3.heap.size := Nat.le_trans hBk g9.size
        clear m0 m1 m2 e0 e1 e2 e3 c1 hm2 ch
      · have al := ow.gr ((Gr.refl W3).alloc (.cells #[.int .u32 x] 30))
        have aM := Mk.alloc (.cells #[.int .u32 x] 30)
        have aE := Ek.alloc (.cells #[.int .u32 x] 30)
        have aR := Rk.alloc (.cells #[.int .u32 x] 30)
        have aG := Gk.alloc (.cells #[.int .u32 x] 30)
        go_wp2_with (at_builtin; refine wp_app_n Try.underlying22 infoC rfl (by decide) rfl (.tmp 40) (.tmp 46) rfl A c' (upto f k) (by rw [upto_len]; rfl) B al W3.heap.size 0 [x] 1 rfl (row_one (At.new W3 #[.int .u32 x] 30)) (by simp) (by rw [upto_len]; simp; omega) (by simp; omega) ?_; intro A' c2 w' ow2 ap2 ex2; rw [upto_len])
        have G2 := ap2.bl aG al hwB
        have M2 := ap2.at al aM (by omega)
        have E2 := ap2.at al aE (by omega)
        have R2 := ap2.at al aR (by omega)
        have s2 := ap2.size
        simp at s2
        go_roundw
        case rel => exact ⟨k + 1, A', c2, by omega, by simp, by rw [hcn.out]; simp, rfl, by rw [hsuc.out]; exact ow2, M2, E2, R2, G2, by omega⟩
        case measure => simp [intOf]; omega
      · have al := ow.gr ((Gr.refl W3).alloc (.cells #[.int .u32 q] 30))
        have aM := Mk.alloc (.cells #[.int .u32 q] 30)
        have aE := Ek.alloc (.cells #[.int .u32 q] 30)
        have aR := Rk.alloc (.cells #[.int .u32 q] 30)
        have aG := Gk.alloc (.cells #[.int .u32 q] 30)
        go_wp2_with (at_builtin; refine wp_app_n Try.underlying22 infoC rfl (by decide) rfl (.tmp 34) (.tmp 36) rfl A c' (upto f k) (by rw [upto_len]; rfl) B al W3.heap.size 0 [q] 1 rfl (row_one (At.new W3 #[.int .u32 q] 30)) (by simp) (by rw [upto_len]; simp; omega) (by simp; omega) ?_; intro A' c2 w' ow2 ap2 ex2; rw [upto_len])
        have G2 := ap2.bl aG al hwB
        have M2 := ap2.at al aM (by omega)
        have E2 := ap2.at al aE (by omega)
        have R2 := ap2.at al aR (by omega)
        have s2 := ap2.size
        simp at s2
        go_roundw
        case rel => exact ⟨k + 1, A', c2, by omega, by simp, by rw [hcn.out]; simp, rfl, by rw [hsuc.out]; exact ow2, M2, E2, R2, G2, by omega⟩
        case measure => simp [intOf]; omega
    · obtain rfl : k = n := by omega
      obtain ⟨r0, r1, r2⟩ := cells3 Rk
      obtain ⟨f0, f1, f2, _⟩ := free4 Rk
      have fm := Mk.free 2
      obtain ⟨g, rfl, hgB, _⟩ : ∃ g, A = some ⟨g, 0, none⟩ ∧ B ≤ g ∧ g < wr.heap.size := by
        rcases ow.addr with ⟨_, _, h⟩ | h
        · exfalso; have := upto_len (fun i => if hasB p r s t (i % W : Nat) (i / W : Nat) then q else L.getD i 0) k; rw [h] at this; simp at this; omega
        · exact h
      have X1 := Mk.put 2 (.slice (some ⟨g, 0, none⟩) k c')
      simp at X1
      have X2 := Rk.far (p := ⟨bm, 2, none⟩) (by simp; omega) (.slice (some ⟨g, 0, none⟩) k c')
      have X3 := Gk.setCell (p := ⟨bm, 2, none⟩) (by simp; omega) (.slice (some ⟨g, 0, none⟩) k c')
      have X4 := ow.row.kept (by_set (by_refl wr _) (p := ⟨bm, 2, none⟩) (.slice (some ⟨g, 0, none⟩) k c')) (by simp; omega)
      go_wp2
      have P := X2.put3 (.int .i64 W) (.int .i64 H) (.slice (some ⟨g, 0, none⟩) k c')
      have G := X3.put3 (k := bm + 1 + 1) (by omega) (.int .i64 W) (.int .i64 H) (.slice (some ⟨g, 0, none⟩) k c')
      have C := ((X4.far (p := ⟨bm + 1 + 1, 0, none⟩) (by simp; omega) (.int .i64 W)).far (p := ⟨bm + 1 + 1, 1, none⟩) (by simp; omega) (.int .i64 H)).far (p := ⟨bm + 1 + 1, 2, none⟩) (by simp; omega) (.slice (some ⟨g, 0, none⟩) k c')
      generalize (((wr.setCell ⟨bm, 2, none⟩ (.slice (some ⟨g, 0, none⟩) k c')).setCell ⟨bm + 1 + 1, 0, none⟩ (.int .i64 W)).setCell ⟨bm + 1 + 1, 1, none⟩ (.int .i64 H)).setCell ⟨bm + 1 + 1, 2, none⟩ (.slice (some ⟨g, 0, none⟩) k c') = V at P C G ⊢
      obtain ⟨d0, d1, d2⟩ := cells3 P
      exact bodyPost_ret (v := .tuple #[.agg #[.int .i64 W, .int .i64 H, .slice (some ⟨g, 0, none⟩) k c'], .int .i64 (cntI (fun i => hasB p r s t (i % W : Nat) (i / W : Nat)) k : Nat)]) (by simp [results, Try.results8, go_sem, d0, d1, d2]) rfl ⟨g, c', rfl, C, by omega, G⟩

end Go.Proofs.Ytackojmckloacaa
