/-
  What is proved: the statement ImageParts: the bytes of a rectangle are those of its rows, one behind the other. No conditions.
-/
import Derived.Test.YtafceieenhogpaaQr
import Derived.Test.YtafceieenhogpaaIn
import Derived.Test.YtafceieenhogpaaIb2
import Derived.Test.YtafceieenhogpaaIg
import Derived.Test.YtafceieenhogpaaIl
import Derived.Test.YtafceieenhogpaaId
import Derived.Laws.BytesArg
import Derived.Handy
import Derived.Shelf.Bytes.SlEqualAll
import Derived.Deep.RegionHeld3
import Derived.Deep.DeepCutAuto
import Derived.Deep.CutBlock
namespace Go.Proofs.Ytafceieenhogpaa
open Go.ChangeShapes Go.WideShapes Go.ChangeAt Go.RowKit Go.Joins Go.Sort

theorem cut_in' {x0 y0 x1 y1 W H : Nat} (hx : y0 < y1 → x0 < x1) (hw : x1 ≤ W) (hh : y1 ≤ H) (h : ¬ y0 < y1) : (!emptyB x0 y0 x1 y1 && coversB 0 0 W H x0 y0 x1 y1) = false := by
  have : emptyB (x0 : Int) y0 x1 y1 = true := by simp [emptyB]; omega
  rw [this]; rfl
theorem Ns.text {w : World} {A : Option Addr} {c : Nat} {L : List Int} (h : Ns .u8 w A L) : (convert 40 9 (.slice A L.length c)).run Try.prog w = .ok (.string (strOfNums L)) w := by
  rcases h with rfl | ⟨b, off, rfl, hr⟩
  · exact run_convert_bytes_zero w 40 5 Try.underlying40 Try.underlying5 A c 9 Try.underlying9
  · refine run_convert_bytes_arg (P := Try.prog) w 40 5 Try.underlying40 Try.underlying5 b off _ c _ rfl (fun i hi => ?_) 9 Try.underlying9
    obtain ⟨x, hx⟩ := list_at hi
    rw [hr i x hx, List.getD_eq_getElem?_getD, hx]; rfl
theorem Gr.put4 {a w : World} (h : Gr a w) {k : Nat} (hk : a.heap.size ≤ k) (u0 u1 u2 u3 : Value) : Gr a ((((w.setCell ⟨k, 0, none⟩ u0).setCell ⟨k, 1, none⟩ u1).setCell ⟨k, 2, none⟩ u2).setCell ⟨k, 3, none⟩ u3) :=
  (((h.setCell (p := ⟨k, 0, none⟩) hk u0).setCell (p := ⟨k, 1, none⟩) hk u1).setCell (p := ⟨k, 2, none⟩) hk u2).setCell (p := ⟨k, 3, none⟩) hk u3
theorem nil_text (w : World) : (convert 40 9 (.slice none 0 0)).run Try.prog w = .ok (.string ⟨#[]⟩) w := Ns.text (L := []) (.inl rfl)
theorem readR_le {W H x0 x1 a k : Nat} {F : List Int} (hF : F.length = W * H) (hx : x0 < x1) (hw : x1 ≤ W) (w2 : W ≤ 16) (h2 : H ≤ 16) (hk : a + k ≤ H) : (readR W x0 x1 F (List.range' a k)).length ≤ 1024 := by
  rw [readR_len W x0 x1 F _ (fun y hy => by
    have h3 := List.mem_range'_1.1 hy
    have := row_of (show x1 - 1 < W by omega) (show y < H by omega)
    rw [hF]; omega), List.length_range']
  have := Nat.mul_le_mul (show x1 - x0 ≤ 16 by omega) (show k ≤ 16 by omega)
  omega
theorem strOf_app (a b : List Int) : strOfNums a ++ strOfNums b = strOfNums (a ++ b) := by
  unfold strOfNums
  apply ByteArray.ext
  simp

set_option maxRecDepth 100000 in
set_option maxHeartbeats 4000000 in
theorem iparts_walk (x y : Int) (A : Option Addr) (ca : Nat) (a : List Int) (ra rb rc rd : Int) (w : World) (hx : I64 x) (hy : I64 y) (hA : Ns .u32 w A a) (h32 : ∀ c ∈ a, C32 c) (hca : a.length ≤ ca) (hcm : ca ≤ maxLen) (h1 : I64 ra) (h2 : I64 rb) (h3 : I64 rc) (h4 : I64 rd) :
    Calls Try.prog 7 #[.int .i64 x, .int .i64 y, .slice A a.length ca, .agg #[.int .i64 ra, .int .i64 rb, .int .i64 rc, .int .i64 rd]] w (fun e w' => e = .returned (.bool true) ∧ Bl w w') := by
  obtain ⟨s1, s2, hs3⟩ := side_bd x
  obtain ⟨t1, t2, ht3⟩ := side_bd y
  clear hs3 ht3
  have G0 := (Gr.refl w).alloc (.cells #[.int .i64 ra, .int .i64 rb, .int .i64 rc, .int .i64 rd] 24)
  have E0 := At.new w #[.int .i64 ra, .int .i64 rb, .int .i64 rc, .int .i64 rd] 24
  have cg := mgood1 x y A ca a _ (hA.bl G0.bl) h32 hca hcm hx hy
  have hFl := goodL_len (side x * side y) a
  have hFm := goodL_may (side x * side y) a
  generalize side x = W at *
  generalize side y = H at *
  generalize goodL (W * H) a = F at *
  have cs := fun w => small1 ra rb rc rd w h1 h2 h3 h4
  generalize smallR ra rb rc rd = sm at *
  obtain ⟨sa, sb, sc, sd⟩ := sm
  dsimp only at cs
  have cc := fun w => refcutI1 sa sb sc sd 0 0 W H w
  obtain ⟨x0, y0, x1, y1, hcut, hx0, hxx, hw, hyy, hh, _⟩ := cut_nat sa sb sc sd W H
  rw [hcut] at cc
  dsimp only at cc
  clear hcut
  have hF32 : ∀ c ∈ F, C32 c := fun c hc => (hFm c hc).1
  have cb1 := fun (b : Nat) (w : World) (h : RowN .u32 w b 0 F) => build1 (c := W * H) w h hFl s1 (by omega) t1 (by omega) hFm
  rw [hFl] at cb1
  have hWH := Nat.mul_le_mul s2 t2
  obtain ⟨n, hn⟩ : ∃ n, n = W * H := ⟨_, rfl⟩
  rw [← hn] at cg cb1 hWH
  replace hn := Lib.hid hn
  replace hFl := Lib.hid hFl
  generalize a.length = la at *
  have mixed : Try.prog.follows .mixedOrders = true := by kernel_rfl
  go_enter Try.func7, Try.ntmps7
  go_wp2_with fail
  refine cg.mono ?_
  rintro e v1 ⟨b, rfl, C1, hb1, g1⟩
  replace E0 := E0.bl g1
  replace G0 := G0.bl.trans g1
  have M1 := At.new v1 #[.int .i64 W, .int .i64 H, .slice (some ⟨b, 0, none⟩) n n] 34
  replace C1 := C1.alloc (.cells #[.int .i64 W, .int .i64 H, .slice (some ⟨b, 0, none⟩) n n] 34)
  replace E0 := E0.alloc (.cells #[.int .i64 W, .int .i64 H, .slice (some ⟨b, 0, none⟩) n n] 34)
  replace G0 := G0.alloc (.cells #[.int .i64 W, .int .i64 H, .slice (some ⟨b, 0, none⟩) n n] 34)
  clear cg g1 hb1
  go_wp2_with fail
  refine (cb1 _ _ C1.rowC).mono ?_
  rintro e v2 ⟨pm, pc, rfl, I2, _, _, g2⟩
  replace M1 := M1.bl g2
  replace E0 := E0.bl g2
  replace G0 := G0.trans g2
  clear g2 cb1 C1
  obtain ⟨bM, hbM⟩ : ∃ bM, bM = v1.heap.size := ⟨_, rfl⟩
  rw [← hbM] at M1 ⊢
  replace hbM := Lib.hid hbM
  have SK : ∀ V, Gr v2 V → (V.cell? ⟨bM, 0, none⟩ = some (.int .i64 W) ∧ V.cell? ⟨bM, 1, none⟩ = some (.int .i64 H) ∧ V.cell? ⟨bM, 2, none⟩ = some (.slice (some ⟨b, 0, none⟩) n n) ∧ V.cell? ⟨w.heap.size, 0, none⟩ = some (.int .i64 ra) ∧ V.cell? ⟨w.heap.size, 1, none⟩ = some (.int .i64 rb) ∧ V.cell? ⟨w.heap.size, 2, none⟩ = some (.int .i64 rc) ∧ V.cell? ⟨w.heap.size, 3, none⟩ = some (.int .i64 rd) ∧ Gr v2 V) := fun V g => by
    obtain ⟨m0, m1, m2⟩ := cells3 (M1.gr g)
    obtain ⟨e0, e1, e2, e3⟩ := cells4 (E0.gr g)
    exact ⟨m0, m1, m2, e0, e1, e2, e3, g⟩
  go_upto_region 5 with fail
  go_cut [11] (fun o wx => ∃ kg : Nat, o = .pointer (some ⟨kg, 0, none⟩) ∧ At wx kg #[.int .i64 x0, .int .i64 y0, .int .i64 x1, .int .i64 y1] 24 ∧ Gr v2 wx)
  case first =>
    go_region_held3 (fun V => V.cell? ⟨bM, 0, none⟩ = some (.int .i64 W) ∧ V.cell? ⟨bM, 1, none⟩ = some (.int .i64 H) ∧ V.cell? ⟨bM, 2, none⟩ = some (.slice (some ⟨b, 0, none⟩) n n) ∧ V.cell? ⟨w.heap.size, 0, none⟩ = some (.int .i64 ra) ∧ V.cell? ⟨w.heap.size, 1, none⟩ = some (.int .i64 rb) ∧ V.cell? ⟨w.heap.size, 2, none⟩ = some (.int .i64 rc) ∧ V.cell? ⟨w.heap.size, 3, none⟩ = some (.int .i64 rd) ∧ Gr v2 V) ((refine SK _ ?_; first | assumption | exact Gr.refl _ | exact (Gr.refl _).drew | exact (And.right (And.right (And.right (And.right (And.right (And.right (And.right (by assumption)))))))) | exact Gr.drew (And.right (And.right (And.right (And.right (And.right (And.right (And.right (by assumption)))))))) | exact Gr.alloc (And.right (And.right (And.right (And.right (And.right (And.right (And.right (by assumption)))))))) _ | exact Gr.alloc (by assumption) _ | exact Gr.put4 (by assumption) (Nat.le_refl _) _ _ _ _ | exact Gr.put4 (by assumption) (Gr.size (by assumption)) _ _ _ _ | exact Gr.trans (And.right (And.right (And.right (And.right (And.right (And.right (And.right (by assumption)))))))) (by assumption)))
      ((first
        | (go_at_call 14; (refine (cs _).mono ?_); rintro e a1 ⟨rfl, g1⟩; have B1 : Gr v2 a1 := Gr.trans (And.right (And.right (And.right (And.right (And.right (And.right (And.right (by assumption)))))))) g1; (try have X1 : At a1 v2.heap.size #[.int .i64 0, .int .i64 0, .int .i64 0, .int .i64 0] 24 := (At.new v2.drew #[.int .i64 0, .int .i64 0, .int .i64 0, .int .i64 0] 24).gr g1))
        | (go_at_call 28; (refine (refBox1 _).mono ?_); rintro e a2 ⟨rfl, g2⟩; have B2 : Gr v2 a2 := Gr.trans (And.right (And.right (And.right (And.right (And.right (And.right (And.right (by assumption)))))))) g2; (try have X2 : At a2 a1.heap.size #[.int .i64 0, .int .i64 0, .int .i64 0, .int .i64 0] 24 := (At.new a1 #[.int .i64 0, .int .i64 0, .int .i64 0, .int .i64 0] 24).gr g2); (try have X2 : At a2 v2.heap.size #[.int .i64 0, .int .i64 0, .int .i64 0, .int .i64 0] 24 := X1.gr g2))
        | (go_at_call 27; (refine (cc _).mono ?_); rintro e a3 ⟨rfl, g3⟩; have B3 : Gr v2 a3 := Gr.trans (And.right (And.right (And.right (And.right (And.right (And.right (And.right (by assumption)))))))) g3; (try have X3 : At a3 a2.heap.size #[.int .i64 0, .int .i64 0, .int .i64 0, .int .i64 0] 24 := (At.new a2 #[.int .i64 0, .int .i64 0, .int .i64 0, .int .i64 0] 24).gr g3); (try have X3 : At a3 a1.heap.size #[.int .i64 0, .int .i64 0, .int .i64 0, .int .i64 0] 24 := X2.gr g3); (try have X3 : At a3 v2.heap.size #[.int .i64 0, .int .i64 0, .int .i64 0, .int .i64 0] 24 := X2.gr g3); (try have i0 := (cells4 X3).1); (try have i1 := (cells4 X3).2.1); (try have i2 := (cells4 X3).2.2.1); (try have i3 := (cells4 X3).2.2.2); (try have i4 := (free4 X3).1); (try have i5 := (free4 X3).2.1); (try have i6 := (free4 X3).2.2.1); (try have i7 := (free4 X3).2.2.2))))
    all_goals
      first
        | (have X8 : At a3 a2.heap.size #[.int .i64 0, .int .i64 0, .int .i64 0, .int .i64 0] 24 := X3; go_wp2; go_meet; exact ⟨_, rfl, X8.put4 (.int .i64 x0) (.int .i64 y0) (.int .i64 x1) (.int .i64 y1), B3.put4 (k := a2.heap.size) (Gr.size B2) _ _ _ _⟩)
        | (have X8 : At a3 a1.heap.size #[.int .i64 0, .int .i64 0, .int .i64 0, .int .i64 0] 24 := X3; go_wp2; go_meet; exact ⟨_, rfl, X8.put4 (.int .i64 x0) (.int .i64 y0) (.int .i64 x1) (.int .i64 y1), B3.put4 (k := a1.heap.size) (Gr.size B1) _ _ _ _⟩)
        | (have X8 : At a3 v2.heap.size #[.int .i64 0, .int .i64 0, .int .i64 0, .int .i64 0] 24 := X3; go_wp2; go_meet; exact ⟨_, rfl, X8.put4 (.int .i64 x0) (.int .i64 y0) (.int .i64 x1) (.int .i64 y1), B3.put4 (k := v2.heap.size) (Nat.le_refl _) _ _ _ _⟩)
        | (go_wp2; go_meet; exact ⟨_, rfl, At.new a3 #[.int .i64 x0, .int .i64 y0, .int .i64 x1, .int .i64 y1] 24, B3.alloc _⟩)
  case rest =>
    obtain ⟨kg, rfl, Y8, B8⟩ := hcut
    obtain ⟨w3, rfl⟩ : ∃ V : World, V = wc := ⟨_, rfl⟩
    have I3 := I2.gr B8
    have G3 := G0.gr B8
    clear SK M1 E0 I2 G0 B8 cs cc
    by_cases hz : y0 < y1
    · have hx01 := hxx hz
      have c1 := iread1 w3 I3 hF32 x0 y0 x1 y1 hx01 hw hz hh
      obtain ⟨k0, k1, k2, k3⟩ := cells4 Y8
      have hRl := readR_len W x0 x1 F (List.range' y0 (y1 - y0)) (fun y hy' => by
        have h2 := List.mem_range'_1.1 hy'
        have := row_of (show x1 - 1 < W by omega) (show y < H by omega)
        rw [hFl.out, ← hn.out] at *
        omega)
      have hRp : 0 < (readR W x0 x1 F (List.range' y0 (y1 - y0))).length := by
        rw [hRl, List.length_range']
        have := Nat.mul_pos (show 0 < x1 - x0 by omega) (show 0 < y1 - y0 by omega)
        omega
      have hRm : (readR W x0 x1 F (List.range' y0 (y1 - y0))).length ≤ 100000 := by
        rw [hRl, List.length_range']
        have := Nat.mul_le_mul (show x1 - x0 ≤ 16 by omega) (show y1 - y0 ≤ 16 by omega)
        omega
      obtain ⟨R, hR⟩ : ∃ R : Nat → List Int, ∀ y, R y = readR W x0 x1 F (List.range' y0 (y - y0)) := ⟨_, fun _ => rfl⟩
      have hR0 : R y0 = [] := by rw [hR]; simp [readR]
      have hRs : ∀ y, y0 ≤ y → R (y + 1) = R y ++ readR W x0 x1 F (List.range' y (y + 1 - y)) := fun y hy' => by
        rw [hR, hR, show y + 1 - y0 = (y - y0) + 1 by omega, range'_succ_snoc, readR_snoc, show y + 1 - y = 1 by omega, show y0 + (y - y0) = y by omega]
        simp [readR]
      have hRb : ∀ y, y0 ≤ y → y ≤ y1 → (R y).length ≤ 1024 := fun y h1 h2 => by rw [hR]; exact readR_le hFl.out hx01 hw s2 t2 (by omega)
      have hRc : ∀ y, y < y1 → (readR W x0 x1 F (List.range' y (y + 1 - y))).length ≤ 1024 := fun y h1 => readR_le hFl.out hx01 hw s2 t2 (by omega)
      replace hRb := Lib.hid hRb
      replace hRc := Lib.hid hRc
      rw [← hR] at c1 hRp hRm
      replace hR := Lib.hid hR
      replace hR0 := Lib.hid hR0
      replace hRs := Lib.hid hRs
      clear hRl
      go_wp2_with fail
      refine c1.mono ?_
      clear c1 k0 k1 k2 k3
      rintro e w4 ⟨A4, c4, rfl, N4, g4⟩
      have I4 := I3.bl g4
      have Y4 := Y8.bl g4
      have G4 := G3.trans g4
      obtain ⟨k0, k1, k2, k3⟩ := cells4 Y4
      go_wp2
      clear k0 k1 k2 k3
      go_loopw [14, 15] (fun s i wr => ∃ y : Nat, y0 ≤ y ∧ y ≤ y1 ∧ s = .string (strOfNums (R y)) ∧ i = .int .i64 y ∧ Bl w4 wr) (fun _ i _ => y1 - (intOf i).toNat)
      case atStart => exact ⟨y0, Nat.le_refl _, by omega, by rw [hR0.out]; rfl, rfl, Bl.refl _⟩
      case round =>
        obtain ⟨y, hy0, hy1, rfl, rfl, Gy⟩ := hrel
        obtain ⟨k0, k1, k2, k3⟩ := cells4 (Y4.bl Gy)
        by_cases hlt : y < y1
        · have c2 := iread1 wr (I4.bl Gy) hF32 x0 y x1 (y + 1) hx01 hw (by omega) (by omega)
          have hyi : (y : Int) < (y1 : Int) := by omega
          have hys := hRs.out y hy0
          have hb1 := hRb.out y hy0 hy1
          have hb2 := hRc.out y hlt
          generalize readR W x0 x1 F (List.range' y (y + 1 - y)) = P at *
          replace hys := Lib.hid hys
          rw [show ((y + 1 : Nat) : Int) = (y : Int) + 1 by omega] at c2
          go_wp2_with fail
          refine c2.mono ?_
          clear c2 k0 k1 k2 k3
          rintro e w5 ⟨A5, c5, rfl, N5, g5⟩
          have hT := Ns.text (c := c5) N5
          have happ := strOf_app (R y) P
          rw [← hys.out] at happ
          have hS1 : (strOfNums (R y)).size ≤ 1024 := by rw [strOfNums_size]; exact hb1
          have hS2 : (strOfNums P).size ≤ 1024 := by rw [strOfNums_size]; exact hb2
          generalize P.length = np at *
          generalize R y = Ry at *
          go_wp2
          go_roundw
          case rel => exact ⟨y + 1, by omega, by omega, rfl, by simp, Gy.trans g5⟩
          case measure => simp [intOf]; omega
        · obtain rfl : y = y1 := by omega
          have hT := Ns.text (c := c4) (N4.bl Gy)
          have hsz := strOfNums_size (R y)
          generalize (R y).length = nR at *
          generalize strOfNums (R y) = sR at *
          have hs0 : (0 : Int) < (sR.size : Int) := by omega
          go_wp2_with fail
          refine (ilives1 _).mono ?_
          rintro e w6 ⟨rfl, g6⟩
          go_wp2
          go_ret
          exact ⟨rfl, (G4.trans Gy).trans g6⟩
    · have c1 := iread0 w3 I3 x0 y0 x1 y1 (cut_in' hxx hw hh hz)
      have hz' : ¬ (y0 : Int) < (y1 : Int) := by omega
      obtain ⟨k0, k1, k2, k3⟩ := cells4 Y8
      go_wp2_with fail
      refine c1.mono ?_
      clear c1 k0 k1 k2 k3
      rintro e w4 ⟨rfl, g4⟩
      have Y4 := Y8.gr g4
      have G4 := G3.gr g4
      obtain ⟨k0, k1, k2, k3⟩ := cells4 Y4
      go_wp2
      refine wp_loop_rounds 1 ?_
      rw [rounds_succ]
      have hT := fun V => nil_text V
      go_wp2_with fail
      refine (ilives1 _).mono ?_
      rintro e w6 ⟨rfl, g6⟩
      go_wp2
      go_ret
      exact ⟨rfl, G4.trans g6⟩

set_option maxRecDepth 100000 in
theorem imageParts_lifted (os : Os) (started : os.Started) (H : Type) (enc : TypeId × Value → H) :
    ReturnsInHanded {} Try.checked os 7 .any (Rows.imagePartsSpec.pre6 enc Try.prog Try.f7 Rows.imagePartsRow.domain false) (Rows.imagePartsSpec.post enc Try.prog Try.f7 false true false false) := by
  refine returnsInHanded_of_change (C := Try.checked) own started (by kernel_rfl) Try.func7
    (ChangeSpec.witness6 (enc := enc) (C := Try.checked) false ⟨#[], #[.int .i64 0, .int .i64 0, .slice none 0 0, .agg #[.int .i64 0, .int .i64 0, .int .i64 0, .int .i64 0]], []⟩ 8 (by kernel_rfl) (by kernel_rfl) (by kernel_rfl) (by kernel_rfl)) ?_
  intro W base args ds gs before hval0 hW hcnd _
  have hval : ∀ (j : Nat) t v, Try.f7.params[j]? = some t → args[j]? = some v → Value.okWide Try.prog W .any base t v := hval0
  have hW' := hW
  obtain ⟨p, q, hA0, hV, rfl, hfz, hnd⟩ := hW
  have hA : DataW.TrodAll enc Try.prog W 0 (fun _ => true) true Try.f7.params.toList args.toList ds p := hA0
  rw [Try.params7] at hA hval
  obtain ⟨v0, vs0, d0, ds0, p0, q0, hargs, rfl, rfl, h0, r0⟩ := trodAll_cons hA
  obtain ⟨v1, vs1, d1, ds1, p1, q1, rfl, rfl, rfl, h1, r1⟩ := trodAll_cons r0
  obtain ⟨v2, vs2, d2, ds2, p2, q2, rfl, rfl, rfl, h2, r2⟩ := trodAll_cons r1
  obtain ⟨v3, vs3, d3, ds3, p3, q3, rfl, rfl, rfl, h3, r3⟩ := trodAll_cons r2
  obtain ⟨rfl, rfl, rfl⟩ := trodAll_nil r3
  obtain rfl : args = #[v0, v1, v2, v3] := by cases args; simp_all
  obtain ⟨rfl, rfl⟩ := trodVars_none hV
  obtain ⟨n0, rfl, rfl, rfl, un0⟩ := open_int Try.underlying3 (hval 0 3 v0 rfl rfl) h0
  have wn0 := I64.of_wf un0
  obtain ⟨n1, rfl, rfl, rfl, un1⟩ := open_int Try.underlying3 (hval 1 3 v1 rfl rfl) h1
  have wn1 := I64.of_wf un1
  obtain ⟨A2, c2, L2, rfl, hc2, hm2, hr2, hI2⟩ := open_colors (hval 2 31 v2 rfl rfl) h2
  unfold maxLen at hm2
  obtain ⟨a3, b3, c3, d3, rfl, rfl, rfl, ua3, ub3, uc3, ud3⟩ := open_rect (hval 3 24 v3 rfl rfl) h3
  have wa3 := I64.of_wf ua3
  have wb3 := I64.of_wf ub3
  have wc3 := I64.of_wf uc3
  have wd3 := I64.of_wf ud3
  clear hA0 hval0
  simp only [List.append_nil, List.nil_append] at hW'
  have hlt := hW'.lt
  refine (iparts_walk n0 n1 A2 c2 L2 a3 b3 c3 d3 W wn0 wn1 hr2 hI2 hc2 (by unfold maxLen; omega) wa3 wb3 wc3 wd3).mono fun e W' ⟨he, hb⟩ => ?_
  subst he
  exact ⟨_, rfl, close_below (pa := p2) (pv := []) hW' (fun _ _ _ => (trodAll_cons_mk (shut_bool Try.underlying4 _) trodAll_mk0)) (fun sp hsp => by
      have := (trodAll_cons_mk (shut_int Try.underlying3 un0) (trodAll_cons_mk (shut_int Try.underlying3 un1) (trodAll_cons_mk (WideElems.Trod_stays laidOut (by kernel_rfl) (of_decide_eq_true (by kernel_rfl)) h2 (fun x hx => Below.same hb (hlt x (by simp [hx]))) (sp' := sp) (fun x hx => hsp x (by simp [hx]))) (trodAll_cons_mk (shut_rect ua3 ub3 uc3 ud3) trodAll_mk0))))
      simp only [List.append_nil, List.nil_append] at this
      exact this)
    (fun _ _ => rfl) (by simp) hb (ok_one (by kernel_rfl) rfl (okWide_bool_mk Try.underlying4 _))⟩

theorem imageParts_holds : Rows.ImagePartsSaid :=
  OpenClaim.holds_of_wide 7 Try.f7 rfl rfl rfl rfl rfl rfl rfl ⟨rfl, rfl, rfl, rfl, rfl⟩ rfl rfl rfl rfl rfl (by kernel_rfl) Try.func7 (by kernel_rfl)
    (of_decide_eq_true (by kernel_rfl)) (by unfold Func.isWrapper; first | (rw [if_pos (by decide +kernel)]; kernel_rfl) | (rw [if_neg (by decide +kernel)]; exact ⟨rfl, rfl⟩))
    (fun os started H enc _ => imageParts_lifted os started H enc)

#print axioms imageParts_holds

end Go.Proofs.Ytafceieenhogpaa
