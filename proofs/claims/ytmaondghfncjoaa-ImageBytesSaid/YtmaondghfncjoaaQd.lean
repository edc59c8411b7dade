/-
  What is proved: the document's Read of an image.
-/
import Derived.Test.YtmaondghfncjoaaQr
import Derived.Test.YtmaondghfncjoaaIq
import Derived.Test.YtmaondghfncjoaaIb
import Derived.Test.YtmaondghfncjoaaIc
namespace Go.Proofs.Ytmaondghfncjoaa
open Go.RowKit Go.Sort Go.Shelf

theorem idx_w {y W x : Nat} (h : y * W + x ≤ 1000000) : wrap64 ((y : Int) * (W : Int)) = ((y * W : Nat) : Int) ∧ wrap64 (((y * W : Nat) : Int) + (x : Int)) = ((y * W + x : Nat) : Int) :=
  ⟨by rw [← Int.natCast_mul]; exact w64 (by omega) (by omega), by rw [← Int.natCast_add]; exact w64 (by omega) (by omega)⟩

theorem px_cell {cc v : Int} {k : Nat} (h : (px cc)[k]? = some v) : (#[.int .i64 (pA cc), .int .i64 (pR cc), .int .i64 (pG cc), .int .i64 (pB cc)] : Array Value)[k]? = some (.int .i64 v) := by
  match k with
  | 0 => simp [px] at h; simp [h]
  | 1 => simp [px] at h; simp [h]
  | 2 => simp [px] at h; simp [h]
  | 3 => simp [px] at h; simp [h]
  | n + 4 => simp [px] at h
theorem px_by {cc v : Int} {k : Nat} (hc : C32 cc) (h : (px cc)[k]? = some v) : 0 ≤ v ∧ v < 256 := by
  unfold C32 at hc
  match k with
  | 0 => simp [px, pA] at h; omega
  | 1 => simp [px, pR] at h; omega
  | 2 => simp [px, pG] at h; omega
  | 3 => simp [px, pB] at h; omega
  | n + 4 => simp [px] at h
theorem app_ne {w : World} {B bp c : Nat} {A : Option Addr} {L : List Int} {v a r g b : Int} {t e : TypeId} (h : OwN .u8 e w B A c (L ++ [v])) (hA : ∃ g, A = some ⟨g, 0, none⟩) (X : At w bp #[.int .i64 a, .int .i64 r, .int .i64 g, .int .i64 b] t) : some bp ≠ A.map (·.block) := by
  obtain ⟨k, rfl⟩ := hA
  intro he
  simp at he
  subst he
  obtain ⟨y, hy⟩ := list_at (l := L ++ [v]) (k := 0) (by simp)
  have h1 := h.row 0 y hy
  rw [Nat.zero_add, X.cell 0] at h1
  simp at h1

theorem refread0 {W H b c n : Nat} (w : World) (p r s t : Int) (hn : (!emptyB p r s t && coversB 0 0 W H p r s t) = false) :
    Calls Try.prog 22 #[.agg #[.int .i64 W, .int .i64 H, .slice (some ⟨b, 0, none⟩) n c], .agg #[.int .i64 p, .int .i64 r, .int .i64 s, .int .i64 t]] w
      (fun e w' => e = .returned (.tuple #[.slice none 0 0, .int .i64 4]) ∧ Gr w w') := by
  have cb := fun w => refBox1 (W := W) (H := H) (A := some ⟨b, 0, none⟩) (n := n) (c := c) w
  have cv := fun w => refcovers1 0 0 W H p r s t w
  have ce := fun w => refempty1 p r s t w
  generalize coversB 0 0 W H p r s t = cvv at *
  generalize emptyB p r s t = em at *
  have G0 := (((Gr.refl w).alloc (.cells #[.int .i64 W, .int .i64 H, .slice (some ⟨b, 0, none⟩) n c] 25)).alloc (.cells #[.int .i64 p, .int .i64 r, .int .i64 s, .int .i64 t] 32))
  have M0 := (At.new w #[.int .i64 W, .int .i64 H, .slice (some ⟨b, 0, none⟩) n c] 25).alloc (.cells #[.int .i64 p, .int .i64 r, .int .i64 s, .int .i64 t] 32)
  have E0 := At.newAt (w := w.alloc (.cells #[.int .i64 W, .int .i64 H, .slice (some ⟨b, 0, none⟩) n c] 25)) (n := w.heap.size + 1) (by simp) #[.int .i64 p, .int .i64 r, .int .i64 s, .int .i64 t] 32
  go_enter Try.func22, Try.ntmps22
  go_wp2_with fail
  have m0 := fun q os => M0.cells q os 0; have m1 := fun q os => M0.cells q os 1; have m2 := fun q os => M0.cells q os 2
  have e0 := fun q os => E0.cells q os 0; have e1 := fun q os => E0.cells q os 1; have e2 := fun q os => E0.cells q os 2; have e3 := fun q os => E0.cells q os 3
  simp at m0 m1 m2 e0 e1 e2 e3
  refine wp_region_quiet_grown (by kernel_rfl) (by kernel_rfl) ?_
  repeat (first | go_big_quiet_step ((first | (go_at_call 20; exact Calls.grown (cb _)) | (go_at_call 42; exact Calls.grown (cv _)))) | quiet_step ((first | (go_at_call 20; exact Calls.grown (cb _)) | (go_at_call 42; exact Calls.grown (cv _)))))
  refine wpQuiet_nil ?_
  intro V g9
  replace g9 : Gr _ V := g9
  replace M0 := M0.gr g9
  replace E0 := E0.gr g9
  replace G0 := G0.trans g9
  clear m0 m1 m2 e0 e1 e2 e3 g9 cb cv
  obtain ⟨e0, e1, e2, e3⟩ := cells4 E0
  go_wp2_with fail
  refine (ce _).mono ?_
  rintro e v1 ⟨rfl, g1⟩
  replace M0 := M0.gr g1
  replace E0 := E0.gr g1
  replace G0 := G0.trans g1
  clear e0 e1 e2 e3 g1 ce
  cases em <;> cases cvv <;> (first | (cases hn; done) | skip)
  all_goals
    go_wp2
    refine bodyPost_ret (v := .tuple #[.slice none 0 0, .int .i64 4]) (by simp [results, Try.results22, go_sem]) rfl ⟨rfl, ?_⟩
    repeat (first | with_reducible assumption | with_reducible exact Gr.refl _ | with_reducible apply Gr.drew | with_reducible apply Gr.drewN | with_reducible apply Gr.grow | with_reducible apply Gr.alloc)

set_option maxRecDepth 100000 in
set_option maxHeartbeats 4000000 in
theorem refread1 {W H b c : Nat} {L : List Int} (w : World) (hR : RowN .u32 w b 0 L) (hl : L.length = W * H) (h32 : ∀ c ∈ L, C32 c) (w2 : W ≤ 256) (h2 : H ≤ 256) (x0 y0 x1 y1 : Nat) (hx : x0 < x1) (hw : x1 ≤ W) (hy : y0 < y1) (hh : y1 ≤ H) :
    Calls Try.prog 22 #[.agg #[.int .i64 W, .int .i64 H, .slice (some ⟨b, 0, none⟩) L.length c], .agg #[.int .i64 x0, .int .i64 y0, .int .i64 x1, .int .i64 y1]] w
      (fun e w' => ∃ A c', e = .returned (.tuple #[.slice A (readR W x0 x1 L (List.range' y0 (y1 - y0))).length c', .int .i64 0]) ∧ Ns .u8 w' A (readR W x0 x1 L (List.range' y0 (y1 - y0))) ∧ Bl w w') := by
  obtain ⟨m, hm⟩ : ∃ m, m = x1 - x0 := ⟨_, rfl⟩
  obtain ⟨N, hN⟩ : ∃ N, N = y1 - y0 := ⟨_, rfl⟩
  have hNy : y0 + N = y1 := by omega
  have hmx : x0 + m = x1 := by omega
  have hrl : ∀ k, k ≤ N → (readR W x0 x1 L (List.range' y0 k)).length ≤ 262144 := by
    intro k hk
    rw [readR_len W x0 x1 L _ (fun y hy => by
      have h3 := List.mem_range'_1.1 hy
      have := row_of (show x1 - 1 < W by omega) (show y < H by omega)
      rw [hl]; omega), List.length_range']
    have := Nat.mul_le_mul (show x1 - x0 ≤ 256 by omega) (show k ≤ 256 by omega)
    omega
  have hrs : ∀ k, readR W x0 x1 L (List.range' y0 (k + 1)) = readR W x0 x1 L (List.range' y0 k) ++ rowPx L ((y0 + k) * W + x0) m := by
    intro k
    rw [List.range'_1_concat, readR_snoc, ← hm]
  rw [← hN]
  clear hm hN
  replace hNy := Lib.hid hNy
  replace hmx := Lib.hid hmx
  replace hrl := Lib.hid hrl
  replace hrs := Lib.hid hrs
  have hle := area_le w2 h2
  rw [← hl] at hle
  have hget : ∀ k, k < L.length → L[k]? = some (L.getD k 0) := fun k hk => by rw [List.getD, List.getElem?_eq_getElem hk]; rfl
  obtain ⟨n, hn⟩ : ∃ n, n = L.length := ⟨_, rfl⟩
  rw [← hn] at hle hl hget ⊢
  have hll := Lib.hid hl
  have hgett := Lib.hid hget
  have hnn := Lib.hid hn
  clear hn hl hget
  have cb := fun w => refBox1 (W := W) (H := H) (A := some ⟨b, 0, none⟩) (n := n) (c := c) w
  have cv := fun w => refcovers1 0 0 W H x0 y0 x1 y1 w
  have ce := fun w => refempty1 x0 y0 x1 y1 w
  rw [show coversB 0 0 W H (x0 : Int) y0 x1 y1 = true by simp [coversB]; omega] at cv
  rw [show emptyB (x0 : Int) y0 x1 y1 = false by simp [emptyB]; omega] at ce
  have G0 := (((Gr.refl w).alloc (.cells #[.int .i64 W, .int .i64 H, .slice (some ⟨b, 0, none⟩) n c] 25)).alloc (.cells #[.int .i64 x0, .int .i64 y0, .int .i64 x1, .int .i64 y1] 32))
  have M0 := (At.new w #[.int .i64 W, .int .i64 H, .slice (some ⟨b, 0, none⟩) n c] 25).alloc (.cells #[.int .i64 x0, .int .i64 y0, .int .i64 x1, .int .i64 y1] 32)
  have E0 := At.newAt (w := w.alloc (.cells #[.int .i64 W, .int .i64 H, .slice (some ⟨b, 0, none⟩) n c] 25)) (n := w.heap.size + 1) (by simp) #[.int .i64 x0, .int .i64 y0, .int .i64 x1, .int .i64 y1] 32
  go_enter Try.func22, Try.ntmps22
  go_wp2_with fail
  have m0 := fun q os => M0.cells q os 0; have m1 := fun q os => M0.cells q os 1; have m2 := fun q os => M0.cells q os 2
  have e0 := fun q os => E0.cells q os 0; have e1 := fun q os => E0.cells q os 1; have e2 := fun q os => E0.cells q os 2; have e3 := fun q os => E0.cells q os 3
  simp at m0 m1 m2 e0 e1 e2 e3
  refine wp_region_quiet_grown (by kernel_rfl) (by kernel_rfl) ?_
  repeat (first | go_big_quiet_step ((first | (go_at_call 20; exact Calls.grown (cb _)) | (go_at_call 42; exact Calls.grown (cv _)))) | quiet_step ((first | (go_at_call 20; exact Calls.grown (cb _)) | (go_at_call 42; exact Calls.grown (cv _)))))
  refine wpQuiet_nil ?_
  intro V g9
  replace g9 : Gr _ V := g9
  replace M0 := M0.gr g9
  replace E0 := E0.gr g9
  replace G0 := G0.trans g9
  clear m0 m1 m2 e0 e1 e2 e3 g9 cb cv
  obtain ⟨e0, e1, e2, e3⟩ := cells4 E0
  go_wp2_with fail
  refine (ce _).mono ?_
  rintro e v1 ⟨rfl, g1⟩
  replace M0 := M0.gr g1
  replace E0 := E0.gr g1
  replace G0 := G0.trans g1
  clear e0 e1 e2 e3 g1 ce
  have hwm := G0.size
  replace G0 := G0.bl
  have bs1 := E0.lt
  obtain ⟨bm, hbm⟩ : ∃ bm, bm = w.heap.size := ⟨_, rfl⟩
  obtain ⟨B, hB⟩ : ∃ B, B = v1.heap.size := ⟨_, rfl⟩
  have bs2 : bm + 1 < B := by omega
  rw [← hbm] at M0 E0 ⊢
  have hBv : B ≤ v1.heap.size := by omega
  have hwm : w.heap.size ≤ bm := by omega
  have hwB : w.heap.size ≤ B := by omega
  clear bs1 hbm hB
  obtain ⟨e0, e1, e2, e3⟩ := cells4 E0
  go_wp2_with fail
  go_loopw [7, 8] (fun o y wr => ∃ (k : Nat) (A : Option Addr) (c' : Nat), k ≤ N ∧ y = .int .i64 ((y0 + k : Nat) : Int) ∧ o = .slice A (readR W x0 x1 L (List.range' y0 k)).length c' ∧ OwN .u8 5 wr B A c' (readR W x0 x1 L (List.range' y0 k)) ∧
      At wr bm #[.int .i64 W, .int .i64 H, .slice (some ⟨b, 0, none⟩) n c] 25 ∧ At wr (bm + 1) #[.int .i64 x0, .int .i64 y0, .int .i64 x1, .int .i64 y1] 32 ∧ Bl w wr ∧ B ≤ wr.heap.size)
    (fun _ y _ => y1 - (intOf y).toNat)
  case atStart => exact ⟨0, none, 0, Nat.zero_le _, rfl, rfl, OwN.nil _ _ _ _, M0, E0, G0, hBv⟩
  case round =>
    obtain ⟨k, A, c', hk, rfl, rfl, ow, Mk, Ek, Gk, hBk⟩ := hrel
    obtain ⟨e0, e1, e2, e3⟩ := cells4 Ek
    obtain ⟨y, hyk⟩ : ∃ y, y = y0 + k := ⟨_, rfl⟩
    have hlen0 := hrl.out k hk
    by_cases hlt : k < N
    · have hs := Lib.hid (hrs.out k)
      have hlen1 := hrl.out (k + 1) hlt
      rw [hrs.out k] at hlen1
      rw [← hyk] at hlen1 hs ⊢
      have hy1 : y < y1 := by have := hNy.out; omega
      replace hyk := Lib.hid hyk
      obtain ⟨P, hP⟩ : ∃ P, P = readR W x0 x1 L (List.range' y0 k) := ⟨_, rfl⟩
      rw [← hP] at ow hs hlen0 hlen1 ⊢
      replace hP := Lib.hid hP
      rw [List.length_append] at hlen1
      go_wp2_with fail
      go_loopw [7, 9] (fun o x wr => ∃ (j : Nat) (A : Option Addr) (c' : Nat), j ≤ m ∧ x = .int .i64 ((x0 + j : Nat) : Int) ∧ o = .slice A (P ++ rowPx L (y * W + x0) j).length c' ∧ OwN .u8 5 wr B A c' (P ++ rowPx L (y * W + x0) j) ∧
          At wr bm #[.int .i64 W, .int .i64 H, .slice (some ⟨b, 0, none⟩) n c] 25 ∧ At wr (bm + 1) #[.int .i64 x0, .int .i64 y0, .int .i64 x1, .int .i64 y1] 32 ∧ Bl w wr ∧ B ≤ wr.heap.size)
        (fun _ x _ => x1 - (intOf x).toNat)
      case atStart => exact ⟨0, A, c', Nat.zero_le _, rfl, by rw [rowPx_zero, List.append_nil], by rw [rowPx_zero, List.append_nil]; exact ow, Mk, Ek, Gk, hBk⟩
      case round =>
        clear e0 e1 e2 e3 ow Mk Ek Gk hBk
        obtain ⟨j, A, c', hj, rfl, rfl, ow, Mk, Ek, Gk, hBk⟩ := hrel
        obtain ⟨e0, e1, e2, e3⟩ := cells4 Ek
        obtain ⟨m0, m1, m2⟩ := cells3 Mk
        obtain ⟨x, hxj⟩ : ∃ x, x = x0 + j := ⟨_, rfl⟩
        by_cases hlt2 : j < m
        · have hxl : x < x1 := by have := hmx.out; omega
          have hq := row_of (show x < W by omega) (show y < H by omega)
          rw [← hll.out] at hq
          have hp : y * W + x0 + j = y * W + x := by omega
          have hc := hgett.out (y * W + x) hq
          have hrs2 : P ++ rowPx L (y * W + x0) (j + 1) = P ++ rowPx L (y * W + x0) j ++ px (L.getD (y * W + x) 0) := by
            rw [rowPx_succ (c := L.getD (y * W + x) 0) (by rw [hp]; exact hc), List.append_assoc]
          replace hrs2 := Lib.hid hrs2
          have hc32 := h32 _ (List.mem_of_getElem? hc)
          have c1 : ∀ wr', Gr wr wr' → wr'.cell? ⟨b, y * W + x, none⟩ = some (.int .u32 (L.getD (y * W + x) 0)) := fun wr' g => by have := (hR.bl (Gk.gr g)) _ _ hc; rwa [Nat.zero_add] at this
          have hlen2 : (P ++ rowPx L (y * W + x0) j).length ≤ 300000 := by
            have := rowPx_len (L := L) (k := y * W + x0) (m := j) (by rw [← hnn.out]; omega)
            rw [List.length_append, this]
            have : j ≤ 256 := by have := hmx.out; omega
            omega
          obtain ⟨q1, q2⟩ := idx_w (y := y) (W := W) (x := x) (by omega)
          rw [← hxj]
          replace hxj := Lib.hid hxj
          generalize L.getD (y * W + x) 0 = cc at *
          obtain ⟨Q, hQ⟩ : ∃ Q, Q = P ++ rowPx L (y * W + x0) j := ⟨_, rfl⟩
          rw [← hQ] at ow hlen2 ⊢
          replace hQ := Lib.hid hQ
          clear hc hp
          generalize y * W + x = z at *
          generalize y * W = yw at *
          have cp := fun w => refparts1 cc w hc32
          have c10 := c1 _ (Gr.refl _)
          go_wp2_with fail
          refine (cp _).mono ?_
          rintro e v2 ⟨rfl, g2⟩
          have g3 := g2.alloc (.cells #[.int .i64 (pA cc), .int .i64 (pR cc), .int .i64 (pG cc), .int .i64 (pB cc)] 86)
          have Xp := At.new v2 #[.int .i64 (pA cc), .int .i64 (pR cc), .int .i64 (pG cc), .int .i64 (pB cc)] 86
          have ow3 := ow.gr g3
          have Mk3 := Mk.gr g3
          have Ek3 := Ek.gr g3
          have Gk3 := Gk.gr g3
          have hB3 : B ≤ (v2.alloc (.cells #[.int .i64 (pA cc), .int .i64 (pR cc), .int .i64 (pG cc), .int .i64 (pB cc)] 86)).heap.size := Nat.le_trans hBk g3.size
          go_wp2_with fail
          obtain ⟨V3, hV3⟩ : ∃ V3, V3 = v2.alloc (.cells #[.int .i64 (pA cc), .int .i64 (pR cc), .int .i64 (pG cc), .int .i64 (pB cc)] 86) := ⟨_, rfl⟩
          rw [← hV3] at g3 Xp ow3 Mk3 Ek3 Gk3 hB3 ⊢
          have hbpB : bm + 1 < v2.heap.size := Nat.lt_of_lt_of_le bs2 (Nat.le_trans hBk g2.size)
          have hne : some v2.heap.size ≠ A.map (·.block) := by
            rcases (ow.gr g2).lies with rfl | ⟨g, rfl, _, h⟩
            · simp
            · simp; omega
          obtain ⟨bp, hbp⟩ : ∃ bp, bp = v2.heap.size := ⟨_, rfl⟩
          rw [← hbp] at Xp hbpB hne ⊢
          clear hV3 hbp g3 g2 ow Mk Ek Gk hBk cp c1 c10 e0 e1 e2 e3 m0 m1 m2
          go_loopw [7, 11] (fun o i wr => ∃ (k : Nat) (A : Option Addr) (c' : Nat), k ≤ 4 ∧ i = .int .i64 (k : Int) ∧ o = .slice A (Q ++ (px cc).take k).length c' ∧ OwN .u8 5 wr B A c' (Q ++ (px cc).take k) ∧
              At wr bm #[.int .i64 W, .int .i64 H, .slice (some ⟨b, 0, none⟩) n c] 25 ∧ At wr (bm + 1) #[.int .i64 x0, .int .i64 y0, .int .i64 x1, .int .i64 y1] 32 ∧ At wr bp #[.int .i64 (pA cc), .int .i64 (pR cc), .int .i64 (pG cc), .int .i64 (pB cc)] 86 ∧ Bl w wr ∧ B ≤ wr.heap.size ∧ some bp ≠ A.map (·.block))
            (fun _ i _ => 4 - (intOf i).toNat)
          case atStart => exact ⟨0, A, c', by omega, rfl, by simp, by simpa using ow3, Mk3, Ek3, Xp, Gk3, hB3, hne⟩
          case round =>
            clear ow3 Mk3 Ek3 Xp Gk3 hB3 hne
            obtain ⟨i, A, c', hi, rfl, rfl, ow, Mk, Ek, Xk, Gk, hBk, hne⟩ := hrel
            have hlen9 : (Q ++ (px cc).take i).length ≤ 300004 := by simp [px]; omega
            by_cases hlt3 : i < 4
            · obtain ⟨v, hv⟩ : ∃ v, (px cc)[i]? = some v := list_at (by simp [px]; omega)
              have hs9 : Q ++ (px cc).take (i + 1) = (Q ++ (px cc).take i) ++ [v] := by rw [List.take_add_one, hv]; simp
              have c9 : wr.cell? ⟨bp, i, none⟩ = some (.int .i64 v) := (Xk.cell i).trans (px_cell hv)
              have hvb := px_by hc32 hv
              obtain ⟨v0, v1'⟩ := hvb
              replace hs9 := Lib.hid hs9
              generalize Q ++ (px cc).take i = R9 at *
              clear hv
              have al := ow.gr ((Gr.refl wr).alloc (.cells #[.int .u8 v] 5))
              have aM := Mk.alloc (.cells #[.int .u8 v] 5)
              have aE := Ek.alloc (.cells #[.int .u8 v] 5)
              have aX := Xk.alloc (.cells #[.int .u8 v] 5)
              have aG := Gk.alloc (.cells #[.int .u8 v] 5)
              go_wp2_with (at_builtin; refine wp_app_n Try.underlying33 infoBy rfl (by decide) rfl (.tmp 53) (.tmp 58) rfl A c' R9 rfl B al wr.heap.size 0 [v] 1 rfl (row_one (At.new wr #[.int .u8 v] 5)) (by simp) (by simp; omega) (by simp; omega) ?_; intro A' c2 w' ow2 ap2 ex2)
              have G2 := ap2.bl aG al hwB
              have M2 := ap2.at al aM (by omega)
              have E2 := ap2.at al aE (by omega)
              have X2 := aX.kept ap2 hne
              have n2 := app_ne ow2 ex2 X2
              have s2 := ap2.size
              simp at s2
              go_roundw
              case rel => exact ⟨i + 1, A', c2, by omega, by simp, by rw [hs9.out]; simp, by rw [hs9.out]; exact ow2, M2, E2, X2, G2, by omega, n2⟩
              case measure => simp [intOf]; omega
            · obtain rfl : i = 4 := by omega
              have hs9 : Q ++ (px cc).take 4 = P ++ rowPx L (yw + x0) (j + 1) := by rw [hrs2.out, hQ.out]; simp [px]
              rw [hs9] at ow ⊢
              clear hs9
              go_wp2
              go_roundw
              case rel => exact ⟨j + 1, A, c', by omega, by have := hxj.out; congr 1; omega, rfl, ow, Mk, Ek, Gk, hBk⟩
              case measure => simp [intOf]; omega
        · obtain rfl : j = m := by omega
          have hxg : x1 ≤ x := by have := hmx.out; omega
          rw [← hxj, ← hs.out]
          rw [← hs.out] at ow
          clear hxj
          go_wp2
          go_roundw
          case rel => exact ⟨k + 1, A, c', by omega, by have := hyk.out; congr 1; omega, rfl, ow, Mk, Ek, Gk, hBk⟩
          case measure => simp [intOf]; omega
    · obtain rfl : k = N := by omega
      have hyg : y1 ≤ y := by have := hNy.out; omega
      rw [← hyk]
      clear hyk
      go_wp2
      refine bodyPost_ret (v := .tuple #[.slice A (readR W x0 x1 L (List.range' y0 k)).length c', .int .i64 0]) (by simp [results, Try.results22, go_sem]) rfl ⟨A, c', rfl, ?_, ?_⟩
      · rcases ow.addr with ⟨_, _, h⟩ | ⟨g, rfl, _⟩
        · exact .inl h
        · exact .inr ⟨g, 0, rfl, ow.row⟩
      · exact Gk

end Go.Proofs.Ytmaondghfncjoaa
