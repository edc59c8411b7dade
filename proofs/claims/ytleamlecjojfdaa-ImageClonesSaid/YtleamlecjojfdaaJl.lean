/-
  What is proved: the statement ImageClones: a clone is one of its own; two images are the same just if all their colors are. No conditions.
-/
import Derived.Test.YtleamlecjojfdaaIu
import Derived.Test.YtleamlecjojfdaaZj
import Derived.Test.YtleamlecjojfdaaZa
import Derived.Deep.RegionHeld3
import Derived.StillTailTactics
namespace Go.Proofs.Ytleamlecjojfdaa
open Go.ChangeShapes Go.WideShapes Go.ChangeAt Go.RowKit Go.Joins Go.Sort Go.Deep

theorem isetX {pm pc W H : Nat} {L : List Int} {X : List Value} (w : World) (hI : ImgX w pm pc W H L X) (i j : Nat) (hi : i < W) (hj : j < H) (q : Int) (hq : C32 q) :
    Calls Try.prog 26 #[.pointer (some ⟨pm, 0, none⟩), .int .i64 i, .int .i64 j, .int .u32 q] w (fun e w' => e = .returned (.int .i64 (setE q)) ∧ w.grownBy w' (some pc) ∧ ImgX w' pm pc W H (setL L (j * W + i) q) X) := by
  unfold setL setE
  cases hm : mayC q
  · rw [if_neg (by simp), if_neg (by simp)]
    exact (setAX w hI i j q hq (by simp [hasB]; omega) hm).mono fun _ _ ⟨he, hg⟩ => ⟨he, hg.by _, hI.gr hg⟩
  · rw [if_pos rfl, if_pos rfl]
    exact set1X w hI i j hi hj q hq hm
theorem ImgX.kept {w w' : World} {pm pc W H : Nat} {L : List Int} {X : List Value} {row : Option Nat} (h : ImgX w pm pc W H L X) (g : w.grownBy w' row) (h1 : some pm ≠ row) (h2 : some pc ≠ row) : ImgX w' pm pc W H L X := { h with hd := h.hd.kept g h1, cs := h.cs.kept g h2 }

set_option maxRecDepth 100000 in
set_option maxHeartbeats 8000000 in
theorem iclones_walk (x y : Int) (A : Option Addr) (ca : Nat) (a : List Int) (at_ q : Int) (w : World) (hx : I64 x) (hy : I64 y) (hA : Ns .u32 w A a) (h32 : ∀ c ∈ a, C32 c) (hca : a.length ≤ ca) (hcm : ca ≤ maxLen) (hat : I64 at_) (hq : C32 q) :
    Calls Try.prog 6 #[.int .i64 x, .int .i64 y, .slice A a.length ca, .int .i64 at_, .int .u32 q] w (fun e w' => e = .returned (.bool true) ∧ Bl w w') := by
  obtain ⟨s1, s2, hs3⟩ := side_bd x
  obtain ⟨t1, t2, ht3⟩ := side_bd y
  clear hs3 ht3
  have cg := mgood1 x y A ca a w hA h32 hca hcm hx hy
  have hFl := goodL_len (side x * side y) a
  have hFm := goodL_may (side x * side y) a
  generalize side x = W at *
  generalize side y = H at *
  generalize goodL (W * H) a = F at *
  have cb1 := fun (b : Nat) (w : World) (h : RowN .u32 w b 0 F) => build1 (c := W * H) w h hFl s1 (by omega) t1 (by omega) hFm
  have hWH := Nat.mul_le_mul s2 t2
  have hpos := Nat.mul_pos s1 t1
  rw [hFl] at cb1
  obtain ⟨n, hn⟩ : ∃ n, n = W * H := ⟨_, rfl⟩
  rw [← hn] at cg cb1 hWH hpos
  have hFn : F.length = n := hFl.trans hn.symm
  have cS := fun (b : Nat) (w : World) (h : RowN .u32 w b 0 F) i j hi hj => rset1 (c := n) w h hFl s1 (by omega) (by omega) i j hi hj q hq
  have cLk := fun (pm pc b c : Nat) (X : List Value) (w : World) (h : ImgX w pm pc W H F X) (h2 : RowN .u32 w b 0 F) => likeX (c := c) w h h2
  have cAr := fun w => around1 at_ n w hat (by omega)
  rw [hFn] at cS cLk
  obtain ⟨r1, r2⟩ := around_bd at_ n (by omega)
  obtain ⟨k, hk⟩ : ∃ k : Nat, around at_ n = (k : Int) := ⟨(around at_ n).toNat, by omega⟩
  rw [hk] at r2 cAr
  have hkn : k < n := by omega
  obtain ⟨d1, d2, d3⟩ := div_of (k := k) (H := H) s1 (by rw [← hn]; exact hkn)
  obtain ⟨i, j, hi, hj, x1, x2, x3, x4, x5, x6, x7, x8⟩ := rem_quo k W s1 (by omega)
  rw [← hi] at d1
  rw [← hj] at d2
  have hn16 : n ≤ 256 := by omega
  have HX := Lib.hid (And.intro x1 (And.intro x2 (And.intro x3 (And.intro x4 (And.intro x5 (And.intro x6 (And.intro x7 x8)))))))
  have hFn' := Lib.hid hFn
  clear x1 x2 x3 x4 x5 x6 x7 x8 hi hj d3 hk r1 r2 hFl hn hFn hpos hWH
  generalize a.length = la at *
  have mixed : Try.prog.follows .mixedOrders = true := by kernel_rfl
  go_enter Try.func6, Try.ntmps6
  go_wp2_with fail
  refine cg.mono ?_
  rintro e v1 ⟨b, rfl, C1, hb1, g1⟩
  have M1 := At.new v1 #[.int .i64 W, .int .i64 H, .slice (some ⟨b, 0, none⟩) n n] 34
  replace C1 := C1.alloc (.cells #[.int .i64 W, .int .i64 H, .slice (some ⟨b, 0, none⟩) n n] 34)
  have G1 := g1.alloc (.cells #[.int .i64 W, .int .i64 H, .slice (some ⟨b, 0, none⟩) n n] 34)
  have hM0 : w.heap.size ≤ v1.heap.size := g1.size
  clear cg g1 hA h32 hca hcm hx hy
  go_wp2_with fail
  refine (cb1 _ _ C1.rowC).mono ?_
  rintro e v2 ⟨pm, pc, rfl, I2, hpm, hpc, g2⟩
  have hbl := C1.lt
  have hMl := M1.lt
  replace M1 := M1.bl g2
  replace C1 := C1.bl g2
  replace G1 := G1.trans g2
  clear g2 cb1
  generalize v1.heap.size = bM at *
  go_wp2_with fail
  refine (iclone1 _ I2.x).mono ?_
  rintro e v3 ⟨po, co, Y, rfl, O3, hpo, hco, g3⟩
  have hlm := I2.hd.lt
  have hlc := I2.cs.lt
  replace M1 := M1.bl g3
  replace C1 := C1.bl g3
  replace I2 := I2.bl g3
  replace G1 := G1.trans g3
  have hwc : w.heap.size ≤ co := by omega
  have nb : ¬ b = co := by omega
  have nM : ¬ bM = co := by omega
  have npm : ¬ pm = co := by omega
  have npc : ¬ pc = co := by omega
  clear g3 hlm hlc hpo hco hpm hpc hbl hMl hb1
  have hdd : decide (F = F) = true := by simp
  have cSa := fun (w' : World) (p c p2 c2 : Nat) (X Y : List Value) (h1 : ImgX w' p c W H F X) (h2 : ImgX w' p2 c2 W H F Y) => isame1 w' h1 h2
  rw [hdd] at cSa
  clear hdd
  go_wp2_with fail
  refine (cSa _ _ _ _ _ _ _ O3 I2.x).mono ?_
  rintro e v4 ⟨rfl, g4⟩
  replace M1 := M1.gr g4
  replace C1 := C1.gr g4
  replace I2 := I2.gr g4
  replace O3 := O3.gr g4
  replace G1 := G1.gr g4
  clear g4
  go_wp2_with fail
  refine (cSa _ _ _ _ _ _ _ I2.x O3).mono ?_
  rintro e v5 ⟨rfl, g5⟩
  replace M1 := M1.gr g5
  replace C1 := C1.gr g5
  replace I2 := I2.gr g5
  replace O3 := O3.gr g5
  replace G1 := G1.gr g5
  clear g5
  obtain ⟨m0, m1, m2⟩ := cells3 M1
  go_wp2_with fail
  refine (cLk _ _ _ _ _ _ O3 C1.rowC).mono ?_
  rintro e v6 ⟨rfl, g6⟩
  replace M1 := M1.gr g6
  replace C1 := C1.gr g6
  replace I2 := I2.gr g6
  replace O3 := O3.gr g6
  replace G1 := G1.gr g6
  clear g6 m0 m1 m2
  obtain ⟨m0, m1, m2⟩ := cells3 M1
  go_wp2_with fail
  refine (cAr _).mono ?_
  rintro e v ⟨rfl, rfl⟩
  clear cAr cSa
  obtain ⟨x1, x2, x3, x4, x5, x6, x7, x8⟩ := HX.out
  have SK : ∀ V, Bl v6 V → (V.cell? ⟨bM, 0, none⟩ = some (.int .i64 W) ∧ V.cell? ⟨bM, 1, none⟩ = some (.int .i64 H) ∧ V.cell? ⟨bM, 2, none⟩ = some (.slice (some ⟨b, 0, none⟩) n n) ∧ Bl v6 V) := fun V g => ⟨(M1.bl g).cell 0, (M1.bl g).cell 1, (M1.bl g).cell 2, g⟩
  clear m0 m1 m2
  go_wp2
  have hco6 := O3.cs.lt
  have hb6 := C1.lt
  go_region_held3 (fun V => V.cell? ⟨bM, 0, none⟩ = some (.int .i64 W) ∧ V.cell? ⟨bM, 1, none⟩ = some (.int .i64 H) ∧ V.cell? ⟨bM, 2, none⟩ = some (.slice (some ⟨b, 0, none⟩) n n) ∧ Bl v6 V) ((refine SK _ ?_; repeat (first | with_reducible assumption | with_reducible exact Bl.refl _ | with_reducible exact (And.right (And.right (And.right (by assumption)))) | with_reducible exact Bl.trans (And.right (And.right (And.right (by assumption)))) (by assumption) | with_reducible exact Bl.gr (And.right (And.right (And.right (by assumption)))) (by assumption) | with_reducible apply Bl.drew | with_reducible apply Bl.alloc | (with_reducible refine Bl.put3 ?_ ?_ _ _ _; rotate_left; first | with_reducible exact Nat.le_refl _ | with_reducible exact Bl.size (by assumption) | omega))))
    ((first
      | (go_at_call 25; (refine (cS b _ ((C1.bl (And.right (And.right (And.right (by assumption))))).rowC) i j d1 d2).mono ?_); rintro e v7 ⟨b5, c5, rfl, R7, o7, g7⟩; have G7 : Bl v6 v7 := Bl.trans (And.right (And.right (And.right (by assumption)))) g7; (try have X7 : At v7 v6.heap.size #[.int .i64 0, .int .i64 0, .slice none 0 0] 34 := (At.new v6.drew _ _).bl g7); (try have k70 := (cells3 X7).1); (try have k71 := (cells3 X7).2.1); (try have k72 := (cells3 X7).2.2); (try have f70 := X7.free 0); (try have f71 := X7.free 1); (try have f72 := X7.free 2))))
  all_goals
    have hob : b5 = b ∨ v6.heap.size ≤ b5 := o7.imp_right fun h => Nat.le_trans (by first | exact Nat.le_refl _ | simp) h
    have hob2 : b5 = b ∨ v6.heap.size < b5 ∨ b5 = v6.heap.size := by rcases hob with h | h; exact .inl h; exact .inr (by omega)
    first
      | (have o8 : b5 = b ∨ v6.heap.size + 1 ≤ b5 := by simpa using o7
         have X8 : At v7 v6.heap.size #[.int .i64 0, .int .i64 0, .slice none 0 0] 34 := X7
         have hne8 : b5 ≠ v6.heap.size := by omega
         have Y8 := X8.put3 (.int .i64 W) (.int .i64 H) (.slice (some ⟨b5, 0, none⟩) n c5)
         have B8 := G7.put3 (k := v6.heap.size) (Nat.le_refl _) (.int .i64 W) (.int .i64 H) (.slice (some ⟨b5, 0, none⟩) n c5)
         have R8 := R7.far3 (c := v6.heap.size) hne8 (.int .i64 W) (.int .i64 H) (.slice (some ⟨b5, 0, none⟩) n c5)
         change Exit.then _ _ _ _ (((v7.setCell ⟨v6.heap.size, 0, none⟩ (.int .i64 W)).setCell ⟨v6.heap.size, 1, none⟩ (.int .i64 H)).setCell ⟨v6.heap.size, 2, none⟩ (.slice (some ⟨b5, 0, none⟩) n c5))
         generalize (((v7.setCell ⟨v6.heap.size, 0, none⟩ (.int .i64 W)).setCell ⟨v6.heap.size, 1, none⟩ (.int .i64 H)).setCell ⟨v6.heap.size, 2, none⟩ (.slice (some ⟨b5, 0, none⟩) n c5)) = V at Y8 B8 R8 ⊢
         obtain ⟨bk, hbk2⟩ : ∃ bk, bk = v6.heap.size := ⟨_, rfl⟩
         have hbk : v6.heap.size ≤ bk := by omega
         rw [← hbk2] at Y8 ⊢)
      | (have Y8 := At.new v7 #[.int .i64 W, .int .i64 H, .slice (some ⟨b5, 0, none⟩) n c5] 34
         have B8 := G7.alloc (.cells #[.int .i64 W, .int .i64 H, .slice (some ⟨b5, 0, none⟩) n c5] 34)
         have R8 := R7.bl ((Bl.refl v7).alloc (.cells #[.int .i64 W, .int .i64 H, .slice (some ⟨b5, 0, none⟩) n c5] 34))
         have hsz7 : v6.heap.size ≤ v7.heap.size := G7.size
         generalize v7.alloc (.cells #[.int .i64 W, .int .i64 H, .slice (some ⟨b5, 0, none⟩) n c5] 34) = V at Y8 B8 R8 ⊢
         obtain ⟨bk, hbk2⟩ : ∃ bk, bk = v7.heap.size := ⟨_, rfl⟩
         have hbk : v6.heap.size ≤ bk := by omega
         rw [← hbk2] at Y8 ⊢)
    clear hbk2
    have nk : ¬ bk = co := by omega
    have n5 : ¬ b5 = co := by omega
    have M8 := M1.bl B8
    have C8 := C1.bl B8
    have I8 := I2.bl B8
    have O8 := O3.bl B8
    have G8 := G1.trans B8
    have c0 : V.cell? ⟨bM, 0, none⟩ = some (.int .i64 W) := M8.cell 0
    go_wp2
    go_still_tail 10, (by kernel_rfl)
    change wpList _ _ _ _ _ V.drew
    go_wp2_with fail
    refine (isetX _ (O8.gr (Gr.refl V).drew) i j d1 d2 q hq).mono ?_
    rintro e v9 ⟨rfl, g9, O9⟩
    have M9 := M8.drew.kept g9 (by simpa using nM)
    have N9 := Y8.drew.kept g9 (by simpa using nk)
    have C9 := C8.drew.kept g9 (by simpa using nb)
    have R9 := (R8.gr (Gr.refl V).drew).kept g9 (by simpa using n5)
    have I9 := (I8.gr (Gr.refl V).drew).kept g9 (by simpa using npm) (by simpa using npc)
    have G9 := (G8.drew).row g9 hwc
    clear M8 C8 I8 O8 G8 g9 c0 x1 x2 x3 x4 x5 x6 x7 x8
    generalize hL2 : setL F (j * W + i) q = L2 at R9 O9
    have hL2n : L2.length = n := by rw [← hL2]; unfold setL; split <;> simp [hFn'.out]
    clear hL2
    have cE := fun (w' : World) (g : Bl v9 w') => isame1 w' (O9.bl g) (I9.bl g).x
    have cR := fun (w' : World) (g : Bl v9 w') => rsame1 (W := W) (H := H) (c := c5) (c2 := n) w' (R9.bl g) (C9.bl g).rowC (hL2n.trans hFn'.out.symm) (by rw [hL2n]; omega)
    have cL1 := fun (w' : World) (g : Bl v9 w') => cLk pm pc b n [] w' (I9.bl g).x (C9.bl g).rowC
    have cL2 := fun (w' : World) (g : Bl v9 w') => likeX (c := c5) w' (O9.bl g) (R9.bl g)
    rw [hL2n] at cL2
    rw [hL2n, hFn'.out] at cR
    generalize decide (L2 = F) = dd at cE cR
    have SK9 : ∀ V, Bl v9 V → (V.cell? ⟨bM, 0, none⟩ = some (.int .i64 W) ∧ V.cell? ⟨bM, 1, none⟩ = some (.int .i64 H) ∧ V.cell? ⟨bM, 2, none⟩ = some (.slice (some ⟨b, 0, none⟩) n n) ∧ V.cell? ⟨bk, 0, none⟩ = some (.int .i64 W) ∧ V.cell? ⟨bk, 1, none⟩ = some (.int .i64 H) ∧ V.cell? ⟨bk, 2, none⟩ = some (.slice (some ⟨b5, 0, none⟩) n c5) ∧ Bl v9 V) := fun V g => ⟨(M9.bl g).cell 0, (M9.bl g).cell 1, (M9.bl g).cell 2, (N9.bl g).cell 0, (N9.bl g).cell 1, (N9.bl g).cell 2, g⟩
    go_wp2
    go_region_held3 (fun V => V.cell? ⟨bM, 0, none⟩ = some (.int .i64 W) ∧ V.cell? ⟨bM, 1, none⟩ = some (.int .i64 H) ∧ V.cell? ⟨bM, 2, none⟩ = some (.slice (some ⟨b, 0, none⟩) n n) ∧ V.cell? ⟨bk, 0, none⟩ = some (.int .i64 W) ∧ V.cell? ⟨bk, 1, none⟩ = some (.int .i64 H) ∧ V.cell? ⟨bk, 2, none⟩ = some (.slice (some ⟨b5, 0, none⟩) n c5) ∧ Bl v9 V) ((refine SK9 _ ?_; repeat (first | with_reducible assumption | with_reducible exact Bl.refl _ | with_reducible exact (And.right (And.right (And.right (And.right (And.right (And.right (by assumption))))))) | with_reducible exact Bl.trans (And.right (And.right (And.right (And.right (And.right (And.right (by assumption))))))) (by assumption) | with_reducible exact Bl.gr (And.right (And.right (And.right (And.right (And.right (And.right (by assumption))))))) (by assumption) | with_reducible apply Bl.drew | with_reducible apply Bl.alloc | (with_reducible refine Bl.put3 ?_ ?_ _ _ _; rotate_left; first | with_reducible exact Nat.le_refl _ | with_reducible exact Bl.size (by assumption) | omega))))
      ((first
        | (go_at_call 43; (refine (cE _ (And.right (And.right (And.right (And.right (And.right (And.right (by assumption)))))))).mono ?_); rintro e u1 ⟨rfl, h1⟩; have H1 : Bl v9 u1 := Bl.gr (And.right (And.right (And.right (And.right (And.right (And.right (by assumption))))))) h1)
        | (go_at_call 44; (refine (cR _ (And.right (And.right (And.right (And.right (And.right (And.right (by assumption)))))))).mono ?_); rintro e u2 ⟨rfl, h2⟩; have H2 : Bl v9 u2 := Bl.gr (And.right (And.right (And.right (And.right (And.right (And.right (by assumption))))))) h2)
        | (go_at_call_of 33 (Value.pointer (some ⟨pm, 0, none⟩)); (refine (cL1 _ (And.right (And.right (And.right (And.right (And.right (And.right (by assumption)))))))).mono ?_); rintro e u3 ⟨rfl, h3⟩; have H3 : Bl v9 u3 := Bl.gr (And.right (And.right (And.right (And.right (And.right (And.right (by assumption))))))) h3)
        | (go_at_call_of 33 (Value.pointer (some ⟨po, 0, none⟩)); (refine (cL2 _ (And.right (And.right (And.right (And.right (And.right (And.right (by assumption)))))))).mono ?_); rintro e u4 ⟨rfl, h4⟩; have H4 : Bl v9 u4 := Bl.gr (And.right (And.right (And.right (And.right (And.right (And.right (by assumption))))))) h4)
        | (go_at_call 34; (refine (ilives1 _).mono ?_); rintro e u5 ⟨rfl, h5⟩; have H5 : Bl v9 u5 := Bl.trans (And.right (And.right (And.right (And.right (And.right (And.right (by assumption))))))) h5)))
    all_goals
      go_wp2
      go_ret
      exact ⟨rfl, G9.trans (And.right (And.right (And.right (And.right (And.right (And.right (by assumption)))))))⟩

set_option maxRecDepth 100000 in
theorem imageClones_lifted (os : Os) (started : os.Started) (H : Type) (enc : TypeId × Value → H) :
    ReturnsInHanded {} Try.checked os 6 .any (Rows.imageClonesSpec.pre6 enc Try.prog Try.f6 Rows.imageClonesRow.domain false) (Rows.imageClonesSpec.post enc Try.prog Try.f6 false true false false) := by
  refine returnsInHanded_of_change (C := Try.checked) own started (by kernel_rfl) Try.func6
    (ChangeSpec.witness6 (enc := enc) (C := Try.checked) false ⟨#[], #[.int .i64 0, .int .i64 0, .slice none 0 0, .int .i64 0, .int .u32 0], []⟩ 8 (by kernel_rfl) (by kernel_rfl) (by kernel_rfl) (by kernel_rfl)) ?_
  intro W base args ds gs before hval0 hW hcnd _
  have hval : ∀ (j : Nat) t v, Try.f6.params[j]? = some t → args[j]? = some v → Value.okWide Try.prog W .any base t v := hval0
  have hW' := hW
  obtain ⟨p, q, hA0, hV, rfl, hfz, hnd⟩ := hW
  have hA : DataW.TrodAll enc Try.prog W 0 (fun _ => true) true Try.f6.params.toList args.toList ds p := hA0
  rw [Try.params6] at hA hval
  obtain ⟨v0, vs0, d0, ds0, p0, q0, hargs, rfl, rfl, h0, r0⟩ := trodAll_cons hA
  obtain ⟨v1, vs1, d1, ds1, p1, q1, rfl, rfl, rfl, h1, r1⟩ := trodAll_cons r0
  obtain ⟨v2, vs2, d2, ds2, p2, q2, rfl, rfl, rfl, h2, r2⟩ := trodAll_cons r1
  obtain ⟨v3, vs3, d3, ds3, p3, q3, rfl, rfl, rfl, h3, r3⟩ := trodAll_cons r2
  obtain ⟨v4, vs4, d4, ds4, p4, q4, rfl, rfl, rfl, h4, r4⟩ := trodAll_cons r3
  obtain ⟨rfl, rfl, rfl⟩ := trodAll_nil r4
  obtain rfl : args = #[v0, v1, v2, v3, v4] := by cases args; simp_all
  obtain ⟨rfl, rfl⟩ := trodVars_none hV
  obtain ⟨n0, rfl, rfl, rfl, un0⟩ := open_int Try.underlying3 (hval 0 3 v0 rfl rfl) h0
  have wn0 := I64.of_wf un0
  obtain ⟨n1, rfl, rfl, rfl, un1⟩ := open_int Try.underlying3 (hval 1 3 v1 rfl rfl) h1
  have wn1 := I64.of_wf un1
  obtain ⟨A2, c2, L2, rfl, hc2, hm2, hr2, hI2⟩ := open_colors (hval 2 31 v2 rfl rfl) h2
  unfold maxLen at hm2
  obtain ⟨n3, rfl, rfl, rfl, un3⟩ := open_int Try.underlying3 (hval 3 3 v3 rfl rfl) h3
  have wn3 := I64.of_wf un3
  obtain ⟨n4, rfl, rfl, rfl, un4⟩ := open_int Try.underlying39 (hval 4 39 v4 rfl rfl) h4
  have wn4 := U32.of_wf un4
  clear hA0 hval0
  simp only [List.append_nil, List.nil_append] at hW'
  have hlt := hW'.lt
  refine (iclones_walk n0 n1 A2 c2 L2 n3 n4 W wn0 wn1 hr2 hI2 hc2 (by unfold maxLen; exact hm2) wn3 wn4).mono fun e W' ⟨he, hb⟩ => ?_
  subst he
  exact ⟨_, rfl, close_below (pa := p2) (pv := []) hW' (fun _ _ _ => (trodAll_cons_mk (shut_bool Try.underlying4 _) trodAll_mk0)) (fun sp hsp => by
      have := (trodAll_cons_mk (shut_int Try.underlying3 un0) (trodAll_cons_mk (shut_int Try.underlying3 un1) (trodAll_cons_mk (WideElems.Trod_stays laidOut (by kernel_rfl) (of_decide_eq_true (by kernel_rfl)) h2 (fun x hx => Below.same hb (hlt x (by simp [hx]))) (sp' := sp) (fun x hx => hsp x (by simp [hx]))) (trodAll_cons_mk (shut_int Try.underlying3 un3) (trodAll_cons_mk (shut_int Try.underlying39 un4) trodAll_mk0)))))
      simp only [List.append_nil, List.nil_append] at this
      exact this)
    (fun _ _ => rfl) (by simp) hb (ok_one (by kernel_rfl) rfl (okWide_bool_mk Try.underlying4 _))⟩

theorem imageClones_holds : Rows.ImageClonesSaid :=
  OpenClaim.holds_of_wide 6 Try.f6 rfl rfl rfl rfl rfl rfl rfl ⟨rfl, rfl, rfl, rfl, rfl⟩ rfl rfl rfl rfl rfl (by kernel_rfl) Try.func6 (by kernel_rfl)
    (of_decide_eq_true (by kernel_rfl)) (by unfold Func.isWrapper; first | (rw [if_pos (by decide +kernel)]; kernel_rfl) | (rw [if_neg (by decide +kernel)]; exact ⟨rfl, rfl⟩))
    (fun os started H enc _ => imageClones_lifted os started H enc)

#print axioms imageClones_holds

end Go.Proofs.Ytleamlecjojfdaa
