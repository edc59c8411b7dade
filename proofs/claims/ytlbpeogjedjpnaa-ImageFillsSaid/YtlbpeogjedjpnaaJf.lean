/-
  What is proved: the statement ImageFills: a Fill of the whole is one color all over, and is solid just if that is. No conditions.
-/
import Derived.Test.YtlbpeogjedjpnaaIn
import Derived.Test.YtlbpeogjedjpnaaIk
import Derived.Deep.RegionHeld3
namespace Go.Proofs.Ytlbpeogjedjpnaa
open Go.ChangeShapes Go.WideShapes Go.ChangeAt Go.RowKit Go.Joins Go.Sort

theorem zeros_may (n : Nat) : MayL (List.replicate n 0) := by
  intro c hc
  obtain rfl := List.eq_of_mem_replicate hc
  exact ⟨by unfold C32; omega, by decide⟩
theorem cut_box (W H : Nat) : cutR 0 0 W H 0 0 W H = ⟨(0 : Nat), (0 : Nat), W, H⟩ ∨ (W = 0 ∨ H = 0) := by
  by_cases h : W = 0 ∨ H = 0
  · exact .inr h
  · left
    unfold cutR
    rw [if_neg (by simp [emptyB]; omega)]
    simp
theorem whole (W H : Nat) : ∀ i j : Nat, i < W → j < H → hasB 0 0 W H i j = decide (0 ≤ i ∧ i < W ∧ 0 ≤ j ∧ j < H) := by
  intro i j hi hj
  rw [hasB, Bool.eq_iff_iff]; simp
theorem solid_ge {q : Int} (h : C32 q) : (pA q == 255) = decide (4278190080 ≤ q) := by
  unfold C32 at h; unfold pA
  rw [Bool.eq_iff_iff]; simp; omega

set_option maxRecDepth 100000 in
set_option maxHeartbeats 4000000 in
theorem ifills_walk (x y : Int) (c0 : Int) (w : World) (hx : I64 x) (hy : I64 y) (hc0 : C32 c0) :
    Calls Try.prog 9 #[.int .i64 x, .int .i64 y, .int .u32 c0] w (fun e w' => e = .returned (.bool true) ∧ Bl w w') := by
  obtain ⟨s1, s2, s3⟩ := side_bd x
  obtain ⟨t1, t2, t3⟩ := side_bd y
  obtain ⟨ax1, ax2⟩ := around_bd x 16 (by omega)
  obtain ⟨ay1, ay2⟩ := around_bd y 16 (by omega)
  have cx := fun w => around1 x 16 w hx (by omega)
  have cy := fun w => around1 y 16 w hy (by omega)
  replace s3 := s3.symm
  replace t3 := t3.symm
  generalize side x = W at *
  generalize side y = H at *
  generalize around x 16 = rx at *
  generalize around y 16 = ry at *
  have cg := fun w => cgood1 c0 w hc0
  have hq := gd_c32 c0
  have hm := may_gd c0
  generalize gd c0 = q at *
  have hle := area_le (W := W) (H := H) (by omega) (by omega)
  have hpos : 0 < W * H := Nat.mul_pos s1 t1
  have q1 : wrap64 ((W : Int) * (H : Int)) = ((W * H : Nat) : Int) := by rw [← Int.natCast_mul]; exact w64 (by omega) (by omega)
  have cn := fun w => refNew1 W H w (by omega) (by omega)
  have cb := fun (b : Nat) (w : World) (h : RowN .u32 w b 0 (List.replicate (W * H) 0)) => build1 (c := W * H) w h (by simp) s1 (by omega) t1 (by omega) (zeros_may _)
  have hcut : cutR 0 0 W H 0 0 W H = ⟨(0 : Nat), (0 : Nat), W, H⟩ := by rcases cut_box W H with h | h; exact h; omega
  have cf := fun (pm pc : Nat) (w : World) (h : Img w pm pc W H (List.replicate (W * H) 0)) => fill1 w h 0 0 W H q hq hm 0 W 0 H hcut (by omega) (by omega) (by omega) (by omega) (by omega)
  have cr := fun (b : Nat) (w : World) (h : RowN .u32 w b 0 (List.replicate (W * H) 0)) => refFill1 (c := W * H) w h (by simp) s1 (by omega) t1 (by omega) 0 0 W H q hq hm
  have e1 := fill_eq (q := q) (L := List.replicate (W * H) 0) (p := fun i j => hasB 0 0 W H i j) (by simp) s1 (by omega) (Nat.le_refl W) (by omega) (whole W H)
  have e2 := cnt_area (p := fun i j => hasB 0 0 W H i j) s1 (show 0 ≤ W by omega) (Nat.le_refl W) (show 0 ≤ H by omega) (Nat.le_refl H) (whole W H)
  have e3 : areaI (0 : Nat) (0 : Nat) W H = ((W * H : Nat) : Int) := by unfold areaI; rw [Int.natCast_mul]; simp
  rw [e3] at cf e2
  simp only [List.length_replicate] at cr e1 cb
  rw [e2, ← e1] at cr
  have hsol : allS W 0 W (fillR W 0 W q (List.replicate (W * H) 0) (List.range' 0 (H - 0))) (List.range' 0 (H - 0)) = decide (4278190080 ≤ q) := by
    rw [← solid_ge hq, Bool.eq_iff_iff, allS_iff (H := H) (by rw [fillR_len]; simp) s1 (by omega) (Nat.le_refl W) (by omega)]
    have hg : ∀ i c, (fillR W 0 W q (List.replicate (W * H) 0) (List.range' 0 (H - 0)))[i]? = some c → c = q ∧ i < W * H := by
      intro i c hc
      have hi := (get_of hc).2
      rw [fillR_len, List.length_replicate] at hi
      obtain ⟨d1, d2, _⟩ := div_of (k := i) (H := H) s1 hi
      rw [fillR_get W 0 W q (by omega) (Nat.le_refl W) s1, if_pos ⟨by simpa using hi, by omega, d1, (mem_range'' _ _ _ (Nat.zero_le _)).2 ⟨Nat.zero_le _, d2⟩⟩] at hc
      cases hc; exact ⟨rfl, hi⟩
    constructor
    · intro h
      obtain ⟨c, hc⟩ := list_at (l := fillR W 0 W q (List.replicate (W * H) 0) (List.range' 0 (H - 0))) (k := 0) (by rw [fillR_len]; simpa using hpos)
      have := h 0 c hc ⟨Nat.zero_le _, by simp; omega, Nat.zero_le _, by simp; omega⟩
      rw [(hg 0 c hc).1] at this
      simpa using this
    · intro h i c hc _
      rw [(hg i c hc).1]; simpa using h
  have hmemq : ∀ c ∈ fillR W 0 W q (List.replicate (W * H) 0) (List.range' 0 (H - 0)), C32 c := by
    intro c hc
    obtain ⟨i, hi⟩ := List.getElem?_of_mem hc
    rw [fillR_get W 0 W q (by omega) (Nat.le_refl W) s1] at hi
    split at hi
    · cases hi; exact hq
    · exact (zeros_may _ c (get_of hi).1).1
  have cs := fun (pm pc : Nat) (w : World) (h : Img w pm pc W H (fillR W 0 W q (List.replicate (W * H) 0) (List.range' 0 (H - 0)))) => solid1 w h hmemq 0 0 W H 0 W 0 H hcut (by omega) (by omega) (by omega) (by omega)
  rw [hsol] at cs
  have ck := fun (pm pc b c : Nat) (w : World) (h : Img w pm pc W H (fillR W 0 W q (List.replicate (W * H) 0) (List.range' 0 (H - 0)))) (h2 : RowN .u32 w b 0 (fillR W 0 W q (List.replicate (W * H) 0) (List.range' 0 (H - 0)))) => like1 (c := c) w h h2
  simp only [fillR_len, List.length_replicate] at ck
  clear hmemq hsol e1 e2 e3 hcut
  generalize fillR W 0 W q (List.replicate (W * H) 0) (List.range' 0 (H - 0)) = F at *
  generalize List.replicate (W * H) (0 : Int) = Z at *
  generalize W * H = n at *
  have mixed : Try.prog.follows .mixedOrders = true := by kernel_rfl
  go_enter Try.func9, Try.ntmps9
  go_wp2_with fail
  refine (cx _).mono ?_
  rintro e v1 ⟨rfl, rfl⟩
  go_wp2_with fail
  refine (cy _).mono ?_
  rintro e v1 ⟨rfl, rfl⟩
  go_wp2_with fail
  refine (cn _).mono ?_
  rintro e v1 ⟨b, rfl, C1, hb1, g1⟩
  clear cx cy cn
  go_wp2_with fail
  have M1 := At.new v1 #[.int .i64 W, .int .i64 H, .slice (some ⟨b, 0, none⟩) n n] 25
  have Z1 := (C1.alloc (.cells #[.int .i64 W, .int .i64 H, .slice (some ⟨b, 0, none⟩) n n] 25))
  have G1 := (((Gr.refl w).trans g1).alloc (.cells #[.int .i64 W, .int .i64 H, .slice (some ⟨b, 0, none⟩) n n] 25)).bl
  have hs1 := g1.size
  have hwm : w.heap.size ≤ v1.heap.size := hs1
  obtain ⟨bM, hbM⟩ : ∃ bM, bM = v1.heap.size := ⟨_, rfl⟩
  have hbb := C1.lt
  rw [← hbM] at M1 hwm hbb ⊢
  have hb1' : w.heap.size ≤ b := hb1
  clear hbM hs1 C1 g1 hb1
  refine (cb _ _ Z1.rowC).mono ?_
  rintro e v2 ⟨pm, pc, rfl, I2, hpm, hpc, g2⟩
  have hpm' := M1.lt
  have hne : bM < pm ∧ bM < pc ∧ b < pm ∧ b < pc := by omega
  have hw2 : w.heap.size ≤ pm ∧ w.heap.size ≤ pc := by omega
  replace M1 := M1.bl g2
  replace Z1 := Z1.bl g2
  replace G1 := G1.trans g2
  clear g2 hpm hpc hpm' cb
  go_wp2_with fail
  refine (cg _).mono ?_
  rintro e v3 ⟨rfl, g3⟩
  replace M1 := M1.gr g3
  replace Z1 := Z1.gr g3
  replace G1 := G1.gr g3
  replace I2 := I2.gr g3
  clear g3 cg
  go_wp2_with fail
  refine (box1 _ I2).mono ?_
  rintro e v4 ⟨rfl, g4⟩
  replace M1 := M1.gr g4
  replace Z1 := Z1.gr g4
  replace G1 := G1.gr g4
  replace I2 := I2.gr g4
  clear g4
  go_wp2_with fail
  refine (cf _ _ _ I2).mono ?_
  rintro e v5 ⟨rfl, g5, I5⟩
  replace M1 := M1.kept g5 (by simp; omega)
  replace Z1 := Z1.kept g5 (by simp; omega)
  replace G1 := G1.row g5 (by omega)
  clear g5 cf I2
  have m0 := fun (w' : World) (g : Gr v5 w') => cells3 (M1.gr g)
  obtain ⟨t0, t1', t2'⟩ := cells3 M1
  have SK : ∀ V, Bl v5 V → (V.cell? ⟨bM, 0, none⟩ = some (.int .i64 W) ∧ V.cell? ⟨bM, 1, none⟩ = some (.int .i64 H) ∧ V.cell? ⟨bM, 2, none⟩ = some (.slice (some ⟨b, 0, none⟩) n n) ∧ Bl v5 V) := fun V g => ⟨(cells3 (M1.bl g)).1, (cells3 (M1.bl g)).2.1, (cells3 (M1.bl g)).2.2, g⟩
  go_wp2
  go_region_held3 (fun V => V.cell? ⟨bM, 0, none⟩ = some (.int .i64 W) ∧ V.cell? ⟨bM, 1, none⟩ = some (.int .i64 H) ∧ V.cell? ⟨bM, 2, none⟩ = some (.slice (some ⟨b, 0, none⟩) n n) ∧ Bl v5 V) ((refine SK _ ?_; first | assumption | exact Bl.refl _ | exact (Bl.refl _).drew | exact (And.right (And.right (And.right (by assumption)))) | exact Bl.drew (And.right (And.right (And.right (by assumption)))) | exact Bl.alloc (And.right (And.right (And.right (by assumption)))) _ | exact Bl.alloc (by assumption) _ | exact Bl.put3 (by assumption) (Nat.le_refl _) _ _ _ | exact Bl.put3 (by assumption) (Bl.size (by assumption)) _ _ _ | exact Bl.gr (And.right (And.right (And.right (by assumption)))) (by assumption) | exact Bl.trans (And.right (And.right (And.right (by assumption)))) (by assumption)))
    ((first
      | (go_at_call 26; (refine (refBox1 _).mono ?_); rintro e v6 ⟨rfl, g6⟩; have B6 : Bl v5 v6 := Bl.gr (And.right (And.right (And.right (by assumption)))) (by assumption); (try have X6 : At v6 v5.heap.size #[.int .i64 0, .int .i64 0, .slice none 0 0] 25 := (At.new v5.drew #[.int .i64 0, .int .i64 0, .slice none 0 0] 25).gr g6); (try have k0 := (cells3 X6).1); (try have k1 := (cells3 X6).2.1); (try have k2 := (cells3 X6).2.2); (try have k3 := (free4 X6).1); (try have k4 := (free4 X6).2.1); (try have k5 := (free4 X6).2.2.1))
      | (go_at_call 16; (refine (cr _ _ ((Z1.bl (And.right (And.right (And.right (by assumption))))).rowC)).mono ?_); rintro e v7 ⟨b', c', rfl, R7, hb7, g7⟩; have B7 : Bl v5 v7 := Bl.trans (And.right (And.right (And.right (by assumption)))) g7; (try have X7 : At v7 v6.heap.size #[.int .i64 0, .int .i64 0, .slice none 0 0] 25 := (At.new v6 #[.int .i64 0, .int .i64 0, .slice none 0 0] 25).bl g7); (try have X7 : At v7 v5.heap.size #[.int .i64 0, .int .i64 0, .slice none 0 0] 25 := X6.bl g7); (try have i0 := (cells3 X7).1); (try have i1 := (cells3 X7).2.1); (try have i2 := (cells3 X7).2.2); (try have i3 := (free4 X7).1); (try have i4 := (free4 X7).2.1); (try have i5 := (free4 X7).2.2.1))))
  all_goals
    clear SK
    have hk2 : v5.heap.size ≤ v7.heap.size := B7.size
    first
      | (have X8 : At v7 v6.heap.size #[.int .i64 0, .int .i64 0, .slice none 0 0] 25 := X7; have hb8 : v6.heap.size < b' := (by have := hb7; simp at this; omega); have Y8 := X8.put3 (.int .i64 W) (.int .i64 H) (.slice (some ⟨b', 0, none⟩) n c'); have hlx := X7.lt; have R8 := R7.far3 (c := v6.heap.size) (by omega) (.int .i64 W) (.int .i64 H) (.slice (some ⟨b', 0, none⟩) n c'); have B8 := B7.put3 (k := v6.heap.size) (Bl.size B6) (.int .i64 W) (.int .i64 H) (.slice (some ⟨b', 0, none⟩) n c'); change Exit.then _ _ _ _ (((v7.setCell ⟨v6.heap.size, 0, none⟩ (.int .i64 W)).setCell ⟨v6.heap.size, 1, none⟩ (.int .i64 H)).setCell ⟨v6.heap.size, 2, none⟩ (.slice (some ⟨b', 0, none⟩) n c')); generalize ((v7.setCell ⟨v6.heap.size, 0, none⟩ (.int .i64 W)).setCell ⟨v6.heap.size, 1, none⟩ (.int .i64 H)).setCell ⟨v6.heap.size, 2, none⟩ (.slice (some ⟨b', 0, none⟩) n c') = V at Y8 R8 B8 ⊢; generalize v6.heap.size = bk at Y8 ⊢)
      | (have X8 : At v7 v5.heap.size #[.int .i64 0, .int .i64 0, .slice none 0 0] 25 := X7; have hb8 : v5.heap.size < b' := Nat.lt_of_lt_of_le X6.lt hb7; have Y8 := X8.put3 (.int .i64 W) (.int .i64 H) (.slice (some ⟨b', 0, none⟩) n c'); have R8 := R7.far3 (c := v5.heap.size) (by omega) (.int .i64 W) (.int .i64 H) (.slice (some ⟨b', 0, none⟩) n c'); have B8 := B7.put3 (k := v5.heap.size) (Nat.le_refl _) (.int .i64 W) (.int .i64 H) (.slice (some ⟨b', 0, none⟩) n c'); change Exit.then _ _ _ _ (((v7.setCell ⟨v5.heap.size, 0, none⟩ (.int .i64 W)).setCell ⟨v5.heap.size, 1, none⟩ (.int .i64 H)).setCell ⟨v5.heap.size, 2, none⟩ (.slice (some ⟨b', 0, none⟩) n c')); generalize ((v7.setCell ⟨v5.heap.size, 0, none⟩ (.int .i64 W)).setCell ⟨v5.heap.size, 1, none⟩ (.int .i64 H)).setCell ⟨v5.heap.size, 2, none⟩ (.slice (some ⟨b', 0, none⟩) n c') = V at Y8 R8 B8 ⊢; generalize v5.heap.size = bk at Y8 ⊢)
      | (have Y8 := At.new v7 #[.int .i64 W, .int .i64 H, .slice (some ⟨b', 0, none⟩) n c'] 25; have R8 := R7.bl ((Bl.refl v7).alloc (.cells #[.int .i64 W, .int .i64 H, .slice (some ⟨b', 0, none⟩) n c'] 25)); have B8 := B7.alloc (.cells #[.int .i64 W, .int .i64 H, .slice (some ⟨b', 0, none⟩) n c'] 25); generalize v7.alloc (.cells #[.int .i64 W, .int .i64 H, .slice (some ⟨b', 0, none⟩) n c'] 25) = V at Y8 R8 B8 ⊢; generalize v7.heap.size = bk at Y8 ⊢)
    have M8 := M1.bl B8
    have I8 := I5.bl B8
    have G8 := G1.trans B8
    obtain ⟨y0, y1, y2⟩ := cells3 Y8
    obtain ⟨z0, z1, z2⟩ := cells3 M8
    go_wp2_with fail
    refine (ck _ _ _ _ _ I8 R8).mono ?_
    rintro e u1 ⟨rfl, g1⟩
    replace I8 := I8.gr g1
    replace G8 := G8.gr g1
    clear g1 y0 y1 y2 z0 z1 z2
    go_wp2_with fail
    refine (box1 _ I8).mono ?_
    rintro e u2 ⟨rfl, g2⟩
    replace I8 := I8.gr g2
    replace G8 := G8.gr g2
    clear g2
    go_wp2_with fail
    refine (cs _ _ _ I8).mono ?_
    rintro e u3 ⟨rfl, g3⟩
    replace G8 := G8.trans g3
    clear g3
    go_wp2_with fail
    refine (lives1 _).mono ?_
    rintro e u4 ⟨rfl, g4⟩
    go_wp2
    go_ret
    exact ⟨rfl, G8.trans g4⟩

set_option maxRecDepth 100000 in
theorem imageFills_lifted (os : Os) (started : os.Started) (H : Type) (enc : TypeId × Value → H) :
    ReturnsInHanded {} Try.checked os 9 .any (Rows.imageFillsSpec.pre6 enc Try.prog Try.f9 Rows.imageFillsRow.domain false) (Rows.imageFillsSpec.post enc Try.prog Try.f9 false true false false) := by
  refine returnsInHanded_of_change (C := Try.checked) own started (by kernel_rfl) Try.func9
    (ChangeSpec.witness6 (enc := enc) (C := Try.checked) false ⟨#[], #[.int .i64 0, .int .i64 0, .int .u32 0], []⟩ 8 (by kernel_rfl) (by kernel_rfl) (by kernel_rfl) (by kernel_rfl)) ?_
  intro W base args ds gs before hval0 hW hcnd _
  have hval : ∀ (j : Nat) t v, Try.f9.params[j]? = some t → args[j]? = some v → Value.okWide Try.prog W .any base t v := hval0
  have hW' := hW
  obtain ⟨p, q, hA0, hV, rfl, hfz, hnd⟩ := hW
  have hA : DataW.TrodAll enc Try.prog W 0 (fun _ => true) true Try.f9.params.toList args.toList ds p := hA0
  rw [Try.params9] at hA hval
  obtain ⟨v0, vs0, d0, ds0, p0, q0, hargs, rfl, rfl, h0, r0⟩ := trodAll_cons hA
  obtain ⟨v1, vs1, d1, ds1, p1, q1, rfl, rfl, rfl, h1, r1⟩ := trodAll_cons r0
  obtain ⟨v2, vs2, d2, ds2, p2, q2, rfl, rfl, rfl, h2, r2⟩ := trodAll_cons r1
  obtain ⟨rfl, rfl, rfl⟩ := trodAll_nil r2
  obtain rfl : args = #[v0, v1, v2] := by cases args; simp_all
  obtain ⟨rfl, rfl⟩ := trodVars_none hV
  obtain ⟨n0, rfl, rfl, rfl, un0⟩ := open_int Try.underlying3 (hval 0 3 v0 rfl rfl) h0
  have wn0 := I64.of_wf un0
  obtain ⟨n1, rfl, rfl, rfl, un1⟩ := open_int Try.underlying3 (hval 1 3 v1 rfl rfl) h1
  have wn1 := I64.of_wf un1
  obtain ⟨n2, rfl, rfl, rfl, un2⟩ := open_int Try.underlying30 (hval 2 30 v2 rfl rfl) h2
  have wn2 := U32.of_wf un2
  clear hA0 hval0
  simp only [List.append_nil, List.nil_append] at hW'
  refine (ifills_walk n0 n1 n2 W wn0 wn1 wn2).mono fun e W' ⟨he, hb⟩ => ?_
  subst he
  exact ⟨_, rfl, close_below (pa := []) (pv := []) hW' (fun _ _ _ => (trodAll_cons_mk (shut_bool Try.underlying4 _) trodAll_mk0)) (fun sp _ => (trodAll_cons_mk (shut_int Try.underlying3 un0) (trodAll_cons_mk (shut_int Try.underlying3 un1) (trodAll_cons_mk (shut_int Try.underlying30 un2) trodAll_mk0))))
    (fun _ _ => rfl) rfl hb (ok_one (by kernel_rfl) rfl (okWide_bool_mk Try.underlying4 _))⟩

theorem imageFills_holds : Rows.ImageFillsSaid :=
  OpenClaim.holds_of_wide 9 Try.f9 rfl rfl rfl rfl rfl rfl rfl ⟨rfl, rfl, rfl, rfl, rfl⟩ rfl rfl rfl rfl rfl (by kernel_rfl) Try.func9 (by kernel_rfl)
    (of_decide_eq_true (by kernel_rfl)) (by unfold Func.isWrapper; first | (rw [if_pos (by decide +kernel)]; kernel_rfl) | (rw [if_neg (by decide +kernel)]; exact ⟨rfl, rfl⟩))
    (fun os started H enc _ => imageFills_lifted os started H enc)

#print axioms imageFills_holds

end Go.Proofs.Ytlbpeogjedjpnaa
