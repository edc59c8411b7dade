/-
  What is proved: what Draw of package paint does, of a layer whose image is another one. No conditions but bounds. plain mathematics of Place and Solid of package paint: rectangles so many times as large and moved, the squares that the document lays point by point, and when both sides have the same points. what allOnCanvas and Place of package paint hand back. No conditions but bounds.
-/
import Derived.Test.YtablogiielclaaaGreatZz10
import Derived.Test.YtablogiielclaaaGreatZz13
import Derived.Test.YtablogiielclaaaGreatZz8
namespace Go.Proofs.YtablogiielclaaaGreat
open Go.RowKit Go.Sort Go.Shelf

attribute [local go_sem] Oper.semAt_some

/-- What a layer makes of a color at a point. -/
def lyF (W H : Nat) (M : List Int) (s ax ay al : Int) (p : Int × Int) (was : Int) : Int := ov (fd (atV W H M ((p.1 - ax) / s) ((p.2 - ay) / s)) al) was
/-- What a layer can show of an image. -/
def lyCut (cp : Rc) (W2 H2 : Nat) (s ax ay : Int) (W H : Nat) : Rc := cutR (lyBox cp W2 H2 s ax ay).a (lyBox cp W2 H2 s ax ay).b (lyBox cp W2 H2 s ax ay).c (lyBox cp W2 H2 s ax ay).d 0 0 W H
/-- What Draw tells and leaves. -/
def DrawQ (w : World) (pm pc W H : Nat) (L : List Int) (f : Int × Int → Int → Int) (S : Rc) (R0 : List Rc) (e : Ending) (w' : World) : Prop :=
  ∃ R, OfQ g256 g256 (cutL S R0) R ∧ e = .returned (.int .i64 ((ptsL R).length : Nat)) ∧ w.grownBy w' (some pc) ∧ Img w' pm pc W H (drawP W f L (ptsL R))

theorem atV_may {W H : Nat} {L : List Int} (x y : Int) (h : ∀ c ∈ L, mayC c = true) : mayC (atV W H L x y) = true := by
  unfold atV
  split
  · rw [List.getD_eq_getElem?_getD]
    cases hq : L[ixP W (x, y)]? with
    | none => decide
    | some c => exact h c (List.mem_of_getElem? hq)
  · decide
theorem lyF_may {W H : Nat} {M : List Int} (s ax ay al : Int) (p : Int × Int) {was : Int} (hM : MayL M) (hw : mayC was = true) : mayC (lyF W H M s ax ay al p was) = true :=
  may_ov (may_fd al (atV_may _ _ (fun c hc => (hM c hc).2))) hw
theorem mayL_set {L : List Int} {k : Nat} {c : Int} (h : MayL L) (hc : C32 c) (hm : mayC c = true) : MayL (L.set k c) := fun d hd => by
  rcases List.mem_or_eq_of_mem_set hd with h1 | h1
  · exact h d h1
  · subst h1; exact ⟨hc, hm⟩
theorem lyCut_bd (cp : Rc) (W2 H2 : Nat) (s ax ay : Int) {W H : Nat} (hW : W ≤ 256) (hH : H ≤ 256) : 0 ≤ (lyCut cp W2 H2 s ax ay W H).a ∧ (lyCut cp W2 H2 s ax ay W H).c ≤ 256 ∧ 0 ≤ (lyCut cp W2 H2 s ax ay W H).b ∧ (lyCut cp W2 H2 s ax ay W H).d ≤ 256 := by
  obtain ⟨x0, y0, x1, y1, he, h1, _, h3, h4, h5, _⟩ := cut_nat (lyBox cp W2 H2 s ax ay).a (lyBox cp W2 H2 s ax ay).b (lyBox cp W2 H2 s ax ay).c (lyBox cp W2 H2 s ax ay).d W H
  unfold lyCut
  rw [he]
  dsimp only
  omega
theorem lyCut_has (cp : Rc) (W2 H2 : Nat) {s : Int} (ax ay : Int) (W H : Nat) (hs : 1 ≤ s) (x y : Int) : hasB (lyCut cp W2 H2 s ax ay W H).a (lyCut cp W2 H2 s ax ay W H).b (lyCut cp W2 H2 s ax ay W H).c (lyCut cp W2 H2 s ax ay W H).d x y = (lyHas cp W2 H2 s ax ay x y && hasB 0 0 W H x y) := by
  unfold lyCut
  rw [cutR_has, lyBox_has hs]
theorem lyHas_ge {cp : Rc} {W H : Nat} {s ax ay x y : Int} (hs : 1 ≤ s) (h : lyHas cp W H s ax ay x y = true) : ax ≤ x ∧ ay ≤ y := by
  unfold lyHas at h
  have h1 := (Bool.and_eq_true_iff.1 h).1
  have h2 := of_decide_eq_true (show decide (0 ≤ (x - ax) / s ∧ (x - ax) / s < (W : Int) ∧ 0 ≤ (y - ay) / s ∧ (y - ay) / s < (H : Int)) = true from h1)
  have e1 := (Int.le_ediv_iff_mul_le (c := s) (a := 0) (b := x - ax) (by omega)).1 h2.1
  have e2 := (Int.le_ediv_iff_mul_le (c := s) (a := 0) (b := y - ay) (by omega)).1 h2.2.2.1
  omega

theorem pts_len {W H : Nat} {ps : List (Int × Int)} (hW : 1 ≤ W) (hw : W ≤ 256) (hh : H ≤ 256) (hn : ps.Nodup) (hi : ∀ p ∈ ps, InP W H p) : ps.length ≤ 100000 := by
  have h1 := pts_count hW hn hi (fun i j => decide ((((i : Int), (j : Int)) ∈ ps))) (fun i j _ _ => by simp)
  rw [h1]
  exact Nat.le_trans (cntI_le _ _) (Nat.le_trans (area_le hw hh) (by decide))

set_option maxRecDepth 100000 in
set_option maxHeartbeats 8000000 in
theorem draw1 {pm pc W H p2 c2 W2 H2 : Nat} {L M : List Int} (ax ay s al : Int) (cp : Rc) (A0 : Option Addr) (k0 : Nat) (R0 : List Rc) (w : World) (hI : Img w pm pc W H L) (hJ : Img w p2 c2 W2 H2 M) (hne : p2 ≠ pm) (h1 : p2 ≠ pc) (h2 : c2 ≠ pc) (hL : MayL L) (hMM : MayL M)
    (hM : lyMay W2 H2 s al ax ay = true) (hA : Rs w A0 R0) (hR0 : R0.length ≤ 1000000) :
    Calls Tryz.prog 60 #[.pointer (some ⟨pm, 0, none⟩), .agg #[.pointer (some ⟨p2, 0, none⟩), .int .i64 ax, .int .i64 ay, .int .i64 s, .int .i64 al, .int .i64 cp.a, .int .i64 cp.b, .int .i64 cp.c, .int .i64 cp.d], .slice A0 R0.length k0] w
      (DrawQ w pm pc W H L (lyF W2 H2 M s ax ay al) (lyCut cp W2 H2 s ax ay W H) R0) := by
  have mixed : Tryz.prog.follows .mixedOrders = true := by kernel_rfl
  obtain ⟨m1, m2, m3, m4, m5, m6, m7, m8, _, _⟩ := lmay_bd hM
  have hSb := lyCut_bd cp W2 H2 s ax ay hI.w2 hI.h2
  have hSh := lyCut_has cp W2 H2 ax ay W H m1
  obtain ⟨S, hS⟩ : ∃ S, S = lyCut cp W2 H2 s ax ay W H := ⟨_, rfl⟩
  have cC : ∀ w', Calls Tryz.prog 102 #[.agg #[.int .i64 (lyBox cp W2 H2 s ax ay).a, .int .i64 (lyBox cp W2 H2 s ax ay).b, .int .i64 (lyBox cp W2 H2 s ax ay).c, .int .i64 (lyBox cp W2 H2 s ax ay).d], .agg #[.int .i64 0, .int .i64 0, .int .i64 W, .int .i64 H]] w' (Rt w' (.agg #[.int .i64 S.a, .int .i64 S.b, .int .i64 S.c, .int .i64 S.d])) := fun w' => by
    rw [hS]; exact cut1 _ _ _ _ 0 0 W H w'
  rw [← hS] at hSb hSh ⊢
  have cB := fun (w' : World) (g : Gr w w') => pbox1 ax ay s al cp w' (hJ.gr g) hM
  have cX := fun (w' : World) (g : Gr w w') => box1 w' (hI.gr g)
  have cW := fun (w' : World) (g : Gr w w') => within1 S hSb A0 k0 R0 w' hR0 (hA.bl g.bl)
  generalize lyBox cp W2 H2 s ax ay = bx at *
  clear hS
  have hpe := ptr_ne (w := (w.alloc (.cells #[.pointer (some ⟨pm, 0, none⟩)] 58)).alloc (.cells #[.pointer (some ⟨p2, 0, none⟩), .int .i64 ax, .int .i64 ay, .int .i64 s, .int .i64 al, .int .i64 cp.a, .int .i64 cp.b, .int .i64 cp.c, .int .i64 cp.d] 65)) ((hJ.hd.alloc _).alloc _) ((hI.hd.alloc _).alloc _) hne
  refine (callsIn_wide (n := 5)).1 ?_
  refine callsIn_of_wp_marks Tryz.func60 rfl trivial ?_ rfl
  simp only [Tryz.ntmps60, List.size_toArray, List.length_cons, List.length_nil, Nat.reduceAdd, Nat.reduceSub, Array.replicate_succ, Array.replicate_zero, List.push_toArray, List.append_toArray, List.nil_append, List.cons_append]
  have a1 := ((At.new w #[.pointer (some ⟨pm, 0, none⟩)] 58).alloc (.cells #[.pointer (some ⟨p2, 0, none⟩), .int .i64 ax, .int .i64 ay, .int .i64 s, .int .i64 al, .int .i64 cp.a, .int .i64 cp.b, .int .i64 cp.c, .int .i64 cp.d] 65)).alloc (.cells #[.int .i64 0] 3)
  have a2 := (At.newAt (w := w.alloc (.cells #[.pointer (some ⟨pm, 0, none⟩)] 58)) (n := w.heap.size + 1) (by simp) #[.pointer (some ⟨p2, 0, none⟩), .int .i64 ax, .int .i64 ay, .int .i64 s, .int .i64 al, .int .i64 cp.a, .int .i64 cp.b, .int .i64 cp.c, .int .i64 cp.d] 65).alloc (.cells #[.int .i64 0] 3)
  have a3 := At.newAt (w := (w.alloc (.cells #[.pointer (some ⟨pm, 0, none⟩)] 58)).alloc (.cells #[.pointer (some ⟨p2, 0, none⟩), .int .i64 ax, .int .i64 ay, .int .i64 s, .int .i64 al, .int .i64 cp.a, .int .i64 cp.b, .int .i64 cp.c, .int .i64 cp.d] 65)) (n := w.heap.size + 2) (by simp) #[.int .i64 0] 3
  have G0 := (((Gr.refl w).alloc (.cells #[.pointer (some ⟨pm, 0, none⟩)] 58)).alloc (.cells #[.pointer (some ⟨p2, 0, none⟩), .int .i64 ax, .int .i64 ay, .int .i64 s, .int .i64 al, .int .i64 cp.a, .int .i64 cp.b, .int .i64 cp.c, .int .i64 cp.d] 65)).alloc (.cells #[.int .i64 0] 3)
  gi_wp2
  clear hpe
  rename_i K hK
  obtain ⟨U, hU⟩ : ∃ U, U = (((w.alloc (.cells #[.pointer (some ⟨pm, 0, none⟩)] 58)).alloc (.cells #[.pointer (some ⟨p2, 0, none⟩), .int .i64 ax, .int .i64 ay, .int .i64 s, .int .i64 al, .int .i64 cp.a, .int .i64 cp.b, .int .i64 cp.c, .int .i64 cp.d] 65)).alloc (.cells #[.int .i64 0] 3)) := ⟨_, rfl⟩
  have hzU : U.heap.size = w.heap.size + 3 := by rw [hU]; simp
  rw [← hU] at a1 a2 a3 G0 ⊢
  clear hU
  have rest : ∀ (V : World) (A : Option Addr) (c : Nat) (R : List Rc), Bl U V → OwR V (w.heap.size + 3) A c R → OfQ g256 g256 (cutL S R0) R →
      K { tmps := #[.pointer (some ⟨pm, 0, none⟩), .agg #[.pointer (some ⟨p2, 0, none⟩), .int .i64 ax, .int .i64 ay, .int .i64 s, .int .i64 al, .int .i64 cp.a, .int .i64 cp.b, .int .i64 cp.c, .int .i64 cp.d], .slice A0 R0.length k0,
          .pointer (some ⟨w.heap.size, 0, none⟩), .pointer (some ⟨w.heap.size + 1, 0, none⟩), undef, .int .i64 0, .pointer (some ⟨w.heap.size + 2, 0, none⟩), undef, undef, undef, undef,
          .pointer (some ⟨w.heap.size + 1, 0, none⟩), .pointer (some ⟨p2, 0, none⟩), .pointer (some ⟨pm, 0, none⟩), .bool false, undef, undef, undef,
          .agg #[.pointer (some ⟨p2, 0, none⟩), .int .i64 ax, .int .i64 ay, .int .i64 s, .int .i64 al, .int .i64 cp.a, .int .i64 cp.b, .int .i64 cp.c, .int .i64 cp.d], .agg #[.int .i64 bx.a, .int .i64 bx.b, .int .i64 bx.c, .int .i64 bx.d], .pointer (some ⟨pm, 0, none⟩), .agg #[.int .i64 0, .int .i64 0, .int .i64 W, .int .i64 H], .agg #[.int .i64 S.a, .int .i64 S.b, .int .i64 S.c, .int .i64 S.d], .slice A0 R0.length k0, .slice A R.length c,
          .func (.func 193) #[] #[.pointer (some ⟨V.heap.size, 0, none⟩)],
          undef, undef, undef, undef, undef, undef, undef, undef, undef, undef, undef, undef, undef, undef, undef, undef, undef, undef, undef, undef, undef, undef, undef], defers := [] } (V.alloc (.cells #[.slice A R.length c] 32)) := by
    intro V A c R gV own hQ
    refine hK _ _ ?_
    clear hK cB cX cC cW
    have GV := G0.bl.trans gV
    have hzV := gV.size
    have IV := hI.bl (GV.alloc (.cells #[.slice A R.length c] 32))
    have JV := hJ.bl (GV.alloc (.cells #[.slice A R.length c] 32))
    have b1 := (a1.bl gV).alloc (.cells #[.slice A R.length c] 32)
    have b2 := (a2.bl gV).alloc (.cells #[.slice A R.length c] 32)
    have b3 := (a3.bl gV).alloc (.cells #[.slice A R.length c] 32)
    have bq := At.new V #[.slice A R.length c] 32
    have ownV := own.bl ((Bl.refl V).alloc (.cells #[.slice A R.length c] 32))
    have hlw := hI.cs.lt
    have hlm := hI.hd.lt
    have hRb : ∀ r ∈ R, -1000000 ≤ r.a ∧ r.c ≤ 1000000 ∧ -1000000 ≤ r.b ∧ r.d ≤ 1000000 ∧ r.a ≤ 1000000 ∧ r.b ≤ 1000000 := fun r hr => by
      obtain ⟨q1, q2, q3, q4⟩ := hQ.inr r hr
      rw [g256_mem] at q1 q2 q3 q4
      omega
    have hRl : R.length ≤ 100000000 := Nat.le_trans (reg_len hQ.reg hQ.inr grid256) (by decide)
    have hpt : ∀ x y, ((x, y) : Int × Int) ∈ ptsL R → InP W H (x, y) ∧ ax ≤ x ∧ ay ≤ y := fun x y h => by
      have h1 := ptsL_mem.1 h
      dsimp only at h1
      rw [hQ.has, cutL_has, hSh] at h1
      have h2 := (Bool.and_eq_true_iff.1 (Bool.and_eq_true_iff.1 h1).1)
      have h3 := of_decide_eq_true (show decide (0 ≤ x ∧ x < (W : Int) ∧ 0 ≤ y ∧ y < (H : Int)) = true from h2.2)
      exact ⟨⟨h3.1, h3.2.1, h3.2.2.1, h3.2.2.2⟩, lyHas_ge m1 h2.1⟩
    obtain ⟨f, hf⟩ : ∃ f, f = lyF W2 H2 M s ax ay al := ⟨_, rfl⟩
    have hfm : ∀ p was, mayC was = true → mayC (f p was) = true := fun p was h => by rw [hf]; exact lyF_may s ax ay al p hMM h
    have hfo : ∀ x y was, f (x, y) was = ov (fd (atV W2 H2 M ((x - ax) / s) ((y - ay) / s)) al) was := fun x y was => by rw [hf]; rfl
    have hpost : ∀ V', Img V' pm pc W H (drawP W f L (ptsL R)) → w.grownBy V' (some pc) → DrawQ w pm pc W H L (lyF W2 H2 M s ax ay al) S R0 (.returned (.int .i64 ((ptsL R).length : Nat))) V' := fun V' h1 h2 => ⟨R, hQ, rfl, h2, by rw [← hf]; exact h1⟩
    clear hf
    gi_wp2
    obtain ⟨Z, hZ⟩ : ∃ Z, Z = V.alloc (.cells #[.slice A R.length c] 32) := ⟨_, rfl⟩
    have hzZ : Z.heap.size = V.heap.size + 1 := by rw [hZ]; simp
    have GZ : Bl w Z := by rw [hZ]; exact GV.alloc _
    rw [← hZ] at IV JV b1 b2 b3 bq ownV ⊢
    clear hZ
    replace hpost := Lib.hid hpost
    replace hfm := Lib.hid hfm
    replace hfo := Lib.hid hfo
    have hm32 : ∀ c ∈ M, C32 c := fun c hc => (hMM c hc).1
    refine wpIn_rangeFunc_ownG rfl (by omega) (gf := 193) (lb := #[.pointer (some ⟨V.heap.size, 0, none⟩)]) rfl trivial (enters_of Tryz.func193 (by kernel_rfl) rfl)
      (pointsStops (5 - 1) (by omega) V.heap.size _ (w.heap.size + 3) (fun k => k = pc ∨ k = w.heap.size + 2) A c R hRb hRl Z bq (fun k hk => by rcases hk with rfl | rfl <;> omega) (fun k hk => by rintro (rfl | rfl) <;> omega) ownV)
      (fun h k => h.trans k) (fun W l o o' _ hl ho _ => KeepC.book W l o o' hl ho) (Below.refl _ _) (fun _ => rfl)
      (fun pre V' => Img V' pm pc W H (drawP W f L (pre.map (·.1))) ∧ At V' w.heap.size #[.pointer (some ⟨pm, 0, none⟩)] 58 ∧ At V' (w.heap.size + 1) #[.pointer (some ⟨p2, 0, none⟩), .int .i64 ax, .int .i64 ay, .int .i64 s, .int .i64 al, .int .i64 cp.a, .int .i64 cp.b, .int .i64 cp.c, .int .i64 cp.d] 65 ∧ At V' (w.heap.size + 2) #[.int .i64 (pre.length : Nat)] 3 ∧ Img V' p2 c2 W2 H2 M ∧ w.grownBy V' (some pc) ∧ MayL (drawP W f L (pre.map (·.1))))
      (fun _ _ _ => False)
      ((ownImg _ _ _ _ _ _).and ((ownAt _ _ _ _).and ((ownAt _ _ _ _).and ((ownAt _ _ _ _).and ((ownImg _ _ _ _ _ _).and ((ownBy _ (by omega)).and (ownFrom_pure _ _)))))))
      (fun _ _ _ _ _ hs _ _ => hs)
      ⟨IV, b1, b2, b3, JV, GZ.byr _, hL⟩
      (fun x => { tmps := #[.pointer (some ⟨pm, 0, none⟩), .agg #[.pointer (some ⟨p2, 0, none⟩), .int .i64 ax, .int .i64 ay, .int .i64 s, .int .i64 al, .int .i64 cp.a, .int .i64 cp.b, .int .i64 cp.c, .int .i64 cp.d], .slice A0 R0.length k0,
          .pointer (some ⟨w.heap.size, 0, none⟩), .pointer (some ⟨w.heap.size + 1, 0, none⟩), undef, .int .i64 0, .pointer (some ⟨w.heap.size + 2, 0, none⟩),  .int .i64 x.1.1, .int .i64 x.1.2, undef, undef,
          .pointer (some ⟨w.heap.size + 1, 0, none⟩), .pointer (some ⟨p2, 0, none⟩), .pointer (some ⟨pm, 0, none⟩), .bool false, undef, undef, undef,
          .agg #[.pointer (some ⟨p2, 0, none⟩), .int .i64 ax, .int .i64 ay, .int .i64 s, .int .i64 al, .int .i64 cp.a, .int .i64 cp.b, .int .i64 cp.c, .int .i64 cp.d], .agg #[.int .i64 bx.a, .int .i64 bx.b, .int .i64 bx.c, .int .i64 bx.d], .pointer (some ⟨pm, 0, none⟩), .agg #[.int .i64 0, .int .i64 0, .int .i64 W, .int .i64 H], .agg #[.int .i64 S.a, .int .i64 S.b, .int .i64 S.c, .int .i64 S.d], .slice A0 R0.length k0, .slice A R.length c,
          .func (.func 193) #[] #[.pointer (some ⟨V.heap.size, 0, none⟩)],
           .int .i64 x.1.1, .int .i64 x.1.2, undef, undef, undef, undef, undef, undef, undef, undef, undef, undef, undef, undef, undef, undef, undef, undef, undef, undef, undef, undef, undef], defers := [] }) ?assign ?body ?done ?stop
    case assign =>
      intro l x W' K' hK'
      dsimp only [ptV]
      gi_wp2
      exact hK'
    case body =>
      rintro l pre ⟨⟨px, py⟩, hp⟩ W' ⟨hi, i0, i1, i2, hj, hby, hF⟩ hlen
      obtain ⟨hin, hax, hay⟩ := hpt px py hp
      have hw2 := hI.w2
      have hh2 := hI.h2
      obtain ⟨i, j, he, hiW, hjH⟩ := hin.nat
      injection he with he1 he2
      subst he1 he2
      have hsn : drawP W f L ((pre ++ [(⟨((i : Int), (j : Int)), hp⟩ : Pt R)]).map (·.1)) = (drawP W f L (pre.map (·.1))).set (j * W + i) (f ((i : Int), (j : Int)) ((drawP W f L (pre.map (·.1))).getD (j * W + i) 0)) := by
        rw [List.map_append]
        show drawP W f L (pre.map (·.1) ++ [((i : Int), (j : Int))]) = _
        rw [drawP_snoc, ixP_nat]
      have hFl : (drawP W f L (pre.map (·.1))).length = W * H := by rw [drawP_len, hI.len]
      have hlp : (ptsL R).length ≤ 100000 := pts_len hI.w1 hI.w2 hI.h2 (reg_nodup hQ.reg) (fun p hp => (hpt p.1 p.2 hp).1)
      have hk : j * W + i < W * H := row_of hiW hjH
      generalize drawP W f L (pre.map (·.1)) = F at *
      obtain ⟨q, hq⟩ : ∃ q, F[j * W + i]? = some q := list_at (by rw [hFl]; exact hk)
      have hgd : F.getD (j * W + i) 0 = q := by rw [List.getD_eq_getElem?_getD, hq]; rfl
      rw [hgd, hfo.out] at hsn
      obtain ⟨hq32, hqm⟩ := hF q (List.mem_of_getElem? hq)
      have hm := hfm.out ((i : Int), (j : Int)) q hqm
      rw [hfo.out] at hm
      have cA := fun w' (g : Gr W' w') => at1 w' (hi.gr g) i j hiW hjH q hq
      have cP := fun w' (g : Gr W' w') => pcolAt1 (X := []) ax ay s al cp (i : Int) (j : Int) w' (hj.gr g).x hm32 m1 m2 (by unfold Far; omega) (by unfold Far; omega) (by unfold Far; omega) (by unfold Far; omega) hax hay
      have hk32 := fd_c32 (atV W2 H2 M (((i : Int) - ax) / s) (((j : Int) - ay) / s)) al
      generalize fd (atV W2 H2 M (((i : Int) - ax) / s) (((j : Int) - ay) / s)) al = kc at *
      have ho32 := ov_c32 kc q
      have cX := fun (w' : World) (b : Nat) (h : At w' b #[.int .u32 kc] 52) => pix1 q (some ⟨b, 0, none⟩) 1 [kc] w' (.inr ⟨b, 0, rfl, row_one h⟩) (by simp) hq32 (by intro d hd; simp at hd; subst hd; exact hk32)
      have hpx : pixL q [kc] = ov kc q := rfl
      rw [hpx] at cX
      have cS := fun w' (g : Gr W' w') => set1 w' (hi.gr g) i j hiW hjH (ov kc q) ho32 hm
      have hF2 : MayL (F.set (j * W + i) (ov kc q)) := mayL_set hF ho32 hm
      have hpre : (((pre ++ [(⟨((i : Int), (j : Int)), hp⟩ : Pt R)]).length : Nat) : Int) = (pre.length : Int) + 1 := by simp
      generalize ov kc q = v at *
      dsimp only
      replace hsn := Lib.hid hsn
      replace hpre := Lib.hid hpre
      replace hFl := Lib.hid hFl
      clear hgd hpx hq hF hm hqm hq32 hk32 ho32
      obtain ⟨u0, hu0⟩ : ∃ u0 : World, u0 = W' := ⟨_, rfl⟩
      have s1 := i0.cell 0
      gi_wp2_with (refine ⟨trivial, ?_⟩; gi_at_call 30; refine (CallsIn.inRound l (callsIn_wide.2 (cA _ (Gr.refl _)))).mono ?_; rintro e w3 ⟨rfl, g3⟩)
      rename_i K2 hK2
      subst hu0
      have rest2 : ∀ (Y : World) (kb : Nat), Img Y pm pc W H (F.set (j * W + i) v) → At Y (w.heap.size + 2) #[.int .i64 (pre.length : Nat)] 3 → At Y w.heap.size #[.pointer (some ⟨pm, 0, none⟩)] 58 → At Y (w.heap.size + 1) #[.pointer (some ⟨p2, 0, none⟩), .int .i64 ax, .int .i64 ay, .int .i64 s, .int .i64 al, .int .i64 cp.a, .int .i64 cp.b, .int .i64 cp.c, .int .i64 cp.d] 65 → Img Y p2 c2 W2 H2 M → w.grownBy Y (some pc) → KeepsOthers u0 Y → KeepC (fun k => k = pc ∨ k = w.heap.size + 2) u0 Y →
          K2 { tmps := #[.pointer (some ⟨pm, 0, none⟩), .agg #[.pointer (some ⟨p2, 0, none⟩), .int .i64 ax, .int .i64 ay, .int .i64 s, .int .i64 al, .int .i64 cp.a, .int .i64 cp.b, .int .i64 cp.c, .int .i64 cp.d], .slice A0 R0.length k0,
          .pointer (some ⟨w.heap.size, 0, none⟩), .pointer (some ⟨w.heap.size + 1, 0, none⟩), undef, .int .i64 0, .pointer (some ⟨w.heap.size + 2, 0, none⟩),  .int .i64 (i : Int), .int .i64 (j : Int), .int .u32 q, .bool true,
          .pointer (some ⟨w.heap.size + 1, 0, none⟩), .pointer (some ⟨p2, 0, none⟩), .pointer (some ⟨pm, 0, none⟩), .bool false, undef, undef, undef,
          .agg #[.pointer (some ⟨p2, 0, none⟩), .int .i64 ax, .int .i64 ay, .int .i64 s, .int .i64 al, .int .i64 cp.a, .int .i64 cp.b, .int .i64 cp.c, .int .i64 cp.d], .agg #[.int .i64 bx.a, .int .i64 bx.b, .int .i64 bx.c, .int .i64 bx.d], .pointer (some ⟨pm, 0, none⟩), .agg #[.int .i64 0, .int .i64 0, .int .i64 W, .int .i64 H], .agg #[.int .i64 S.a, .int .i64 S.b, .int .i64 S.c, .int .i64 S.d], .slice A0 R0.length k0, .slice A R.length c,
          .func (.func 193) #[] #[.pointer (some ⟨V.heap.size, 0, none⟩)],
           .int .i64 (i : Int), .int .i64 (j : Int), .tuple #[.int .u32 q, .bool true], .pointer (some ⟨pm, 0, none⟩), .int .i64 (i : Int), .int .i64 (j : Int), .tuple #[.int .u32 q, .bool true], .int .u32 q, .bool true,
            .pointer (some ⟨pm, 0, none⟩), .int .i64 (i : Int), .int .i64 (j : Int), .int .u32 q, .agg #[.pointer (some ⟨p2, 0, none⟩), .int .i64 ax, .int .i64 ay, .int .i64 s, .int .i64 al, .int .i64 cp.a, .int .i64 cp.b, .int .i64 cp.c, .int .i64 cp.d], .int .i64 (i : Int), .int .i64 (j : Int), .int .u32 kc, .slice (some ⟨kb, 0, none⟩) 1 1, .int .u32 v, .int .i64 0, undef, undef, undef], defers := [] } Y := by
        intro Y kb hiY i2Y i0Y i1Y hjY hbyY hkY hcY
        refine hK2 _ _ ?_
        clear hK2
        have z0 : Y.cell? ⟨w.heap.size + 2, 0, none⟩ = some (.int .i64 (pre.length : Nat)) := i2Y.cell 0
        have z1 : Y.frozen? ⟨w.heap.size + 2, 0, none⟩ = false := i2Y.free 0
        have hpl : (pre.length : Int) ≤ 1000000 := by omega
        gi_wp2
        refine ⟨(hkY.trans (KeepsOthers.setCell _ _ _)).from _, hcY.trans (KeepC.set _ _ 0 _ (.inr rfl)), ?_, i0Y.far (p := ⟨w.heap.size + 2, 0, none⟩) (by simp) _, i1Y.far (p := ⟨w.heap.size + 2, 0, none⟩) (by simp) _, ?_, ?_, ?_, ?_⟩
        · rw [hsn.out]
          exact hiY.kept (by_set (p := ⟨w.heap.size + 2, 0, none⟩) (by_refl Y (some (w.heap.size + 2))) _) (by simp; omega) (by simp; omega)
        · rw [hpre.out]
          simpa using i2Y.put 0 (.int .i64 ((pre.length : Int) + 1))
        · have hlt2 := hJ.hd.lt
          have hlt3 := hJ.cs.lt
          exact hjY.kept (by_set (p := ⟨w.heap.size + 2, 0, none⟩) (by_refl Y (some (w.heap.size + 2))) _) (by simp; omega) (by simp; omega)
        · exact by_new hbyY (p := ⟨w.heap.size + 2, 0, none⟩) (by simp) _
        · rw [hsn.out]; exact hF2
      have i03 := (i0.gr g3).drew
      have i13 := (i1.gr g3).drew
      have s3 : w3.cell? ⟨w.heap.size, 0, none⟩ = some (.pointer (some ⟨pm, 0, none⟩)) := i03.cell 0
      have l0 : w3.cell? ⟨w.heap.size + 1, 0, none⟩ = some (.pointer (some ⟨p2, 0, none⟩)) := i13.cell 0
      have l1 : w3.cell? ⟨w.heap.size + 1, 1, none⟩ = some (.int .i64 ax) := i13.cell 1
      have l2 : w3.cell? ⟨w.heap.size + 1, 2, none⟩ = some (.int .i64 ay) := i13.cell 2
      have l3 : w3.cell? ⟨w.heap.size + 1, 3, none⟩ = some (.int .i64 s) := i13.cell 3
      have l4 : w3.cell? ⟨w.heap.size + 1, 4, none⟩ = some (.int .i64 al) := i13.cell 4
      have l5 : w3.cell? ⟨w.heap.size + 1, 5, none⟩ = some (.int .i64 cp.a) := i13.cell 5
      have l6 : w3.cell? ⟨w.heap.size + 1, 6, none⟩ = some (.int .i64 cp.b) := i13.cell 6
      have l7 : w3.cell? ⟨w.heap.size + 1, 7, none⟩ = some (.int .i64 cp.c) := i13.cell 7
      have l8 : w3.cell? ⟨w.heap.size + 1, 8, none⟩ = some (.int .i64 cp.d) := i13.cell 8
      clear s1
      refine wpIn_mono (Q := Exit.then K2 (fun _ _ _ => False)) ?_ then_false
      refine wpIn_region_round (fun w' => w'.cell? ⟨w.heap.size, 0, none⟩ = some (.pointer (some ⟨pm, 0, none⟩))) mixed (by kernel_rfl) (fun ⟨_, _, h⟩ => h) ?_
      have hS0 : w3.drew.cell? ⟨w.heap.size, 0, none⟩ = some (.pointer (some ⟨pm, 0, none⟩)) := i03.cell 0
      refine wpAnyH_take (i := 1) (v := ?_) rfl (by kernel_rfl) (by kernel_rfl) (by kernel_rfl) (fun _ _ _ h => h) (Or.inl ⟨by rfl, ?hy1⟩) (by assumption) ?rest1
      case hy1 => intro w' hSw; (try dsimp only at hSw); go_simp; (try with_reducible rfl)
      simp only [Act.put, List.setIfInBounds_toArray]
      refine wpAnyH_take (i := 2) (v := ?_) rfl (by kernel_rfl) (by kernel_rfl) (by kernel_rfl) (fun _ _ _ h => h) (Or.inl ⟨by rfl, ?hy2⟩) (by assumption) ?rest2
      case hy2 => intro w' hSw; (try dsimp only at hSw); go_simp; (try with_reducible rfl)
      simp only [Act.put]
      refine wpAnyH_take (i := 3) (v := ?_) rfl (by kernel_rfl) (by kernel_rfl) (by kernel_rfl) (fun _ _ _ h => h) (Or.inl ⟨by rfl, ?hy3⟩) (by assumption) ?rest3
      case hy3 => intro w' hSw; (try dsimp only at hSw); go_simp; (try with_reducible rfl)
      simp only [Act.put]
      refine wpAnyH_take (i := 5) (v := ?_) rfl (by kernel_rfl) (by kernel_rfl) (by kernel_rfl) (fun _ _ _ h => h) (Or.inl ⟨by rfl, ?hy5⟩) (by assumption) ?rest5
      case hy5 => intro w' hSw; (try dsimp only at hSw); go_simp; (try with_reducible rfl)
      simp only [Act.put]
      refine wpAnyH_take (i := 6) (v := ?_) rfl (by kernel_rfl) (by kernel_rfl) (by kernel_rfl) (fun _ _ _ h => h) (Or.inl ⟨by rfl, ?hy6⟩) (by assumption) ?rest6
      case hy6 => intro w' hSw; (try dsimp only at hSw); go_simp; (try with_reducible rfl)
      simp only [Act.put]
      refine wpAnyH_take (i := 0) (v := ?_) rfl (by kernel_rfl) (by kernel_rfl) (by kernel_rfl) (fun _ _ _ h => h) (Or.inl ⟨by rfl, ?hy0⟩) (by assumption) ?rest0
      case hy0 => intro w' hSw; (try dsimp only at hSw); go_simp; (try with_reducible rfl)
      simp only [Act.put]
      refine wpAnyH_ready (rs := [4]) (by kernel_rfl) (by simp) (AllReadyH.cons rfl (fun K9 hK9 => ?_) AllReadyH.nil)
      go_simp
      refine hK9.out _ _ hS0 (fun _ => ?_)
      clear hK9 K9
      try simp only [Act.put, List.setIfInBounds_toArray, List.set_cons_zero, List.set_cons_succ]
      refine wpAnyH_ready (rs := [7]) (by kernel_rfl) (by simp) (AllReadyH.cons rfl (fun K9 hK9 => ?_) AllReadyH.nil)
      go_simp
      refine (cP _ g3.drew).mono ?_
      rintro e w4 ⟨rfl, g4⟩
      have i04 := i03.gr g4
      have hS4 : w4.cell? ⟨w.heap.size, 0, none⟩ = some (.pointer (some ⟨pm, 0, none⟩)) := i04.cell 0
      have hlt4 := i04.lt
      dsimp only
      refine hK9.out _ _ hS4 (fun _ => ?_)
      clear hK9 K9
      try simp only [Act.put, List.setIfInBounds_toArray, List.set_cons_zero, List.set_cons_succ]
      refine wpAnyH_ready (rs := [8]) (by kernel_rfl) (by simp) (AllReadyH.cons rfl (fun K9 hK9 => ?_) AllReadyH.nil)
      go_simp
      refine hK9.out _ _ ((i04.alloc _).cell 0) (fun _ => ?_)
      clear hK9 K9
      try simp only [Act.put, List.setIfInBounds_toArray, List.set_cons_zero, List.set_cons_succ]
      refine wpAnyH_ready (rs := [9]) (by kernel_rfl) (by simp) (AllReadyH.cons rfl (fun K9 hK9 => ?_) AllReadyH.nil)
      go_simp
      refine (cX _ _ (At.new w4 _ _)).mono ?_
      rintro e w5 ⟨rfl, g5⟩
      have hS5 : w5.cell? ⟨w.heap.size, 0, none⟩ = some (.pointer (some ⟨pm, 0, none⟩)) := ((i04.alloc _).gr g5).cell 0
      dsimp only
      refine hK9.out _ _ hS5 (fun _ => ?_)
      clear hK9 K9
      try simp only [Act.put, List.setIfInBounds_toArray, List.set_cons_zero, List.set_cons_succ]
      refine wpAnyH_ready (rs := [10]) (by kernel_rfl) (by simp) (AllReadyH.cons rfl (fun K9 hK9 => ?_) AllReadyH.nil)
      go_simp
      refine (cS _ ((((g3.drew).trans g4).alloc _).trans g5)).mono ?_
      rintro e w6 ⟨rfl, b6, I6⟩
      have g35 := ((((g3.drew).trans g4).alloc (.cells #[.int .u32 kc] 52)).trans g5)
      have hw6 := hI.cs.lt
      dsimp only
      refine hK9.out _ _ (((i0.gr g35).kept b6 (by simp; omega)).cell 0) (fun _ => ?_)
      clear hK9 K9
      try simp only [Act.put, List.setIfInBounds_toArray, List.set_cons_zero, List.set_cons_succ]
      refine wpAnyH_done (by kernel_rfl) ?_ _
      refine rest2 w6 w4.heap.size I6 ((i2.gr g35).kept b6 (by simp; omega)) ((i0.gr g35).kept b6 (by simp; omega)) ((i1.gr g35).kept b6 (by simp; omega)) ((hj.gr g35).kept b6 (by simpa using h1) (by simpa using h2)) (by_trans (by_gr hby g35) b6) (g35.keeps.trans (KeepsOthers.of_grownBy b6 (fun k o e ho => by cases e; have := (hi.gr g35).cs; rw [show w5.heap[pc]? = _ from this] at ho; cases ho; rfl))) ((KeepC.gr g35).trans (KeepC.by b6 (.inl rfl)))
    case done =>
      rintro D ys W' hD hys ⟨hi, i0, i1, i2, hj, hby, hF⟩ hK'
      have hlen : ys.length = (ptsL R).length := by have := congrArg List.length hys; simpa using this
      rw [hys] at hi
      rw [hlen] at i2
      clear hys hF
      have z0 : W'.cell? ⟨w.heap.size + 2, 0, none⟩ = some (.int .i64 ((ptsL R).length : Nat)) := i2.cell 0
      gi_wp2
      refine ⟨by simp, .inl ⟨_, _, rfl, run_takeDeferred hK', ?_⟩⟩
      have hgp := grownBy_putObj' W' D (.deferred none)
      have hq := hpost.out _ (hi.kept hgp (by simp; omega) (by simp; omega)) (by_row hby hgp (by omega))
      refine ⟨_, results_tmp rfl _ _ _, ?_⟩
      exact hq
    case stop =>
      rintro D c pre W' _ _ h _
      exact h.elim
  obtain ⟨t0, t1⟩ : U.cell? ⟨w.heap.size, 0, none⟩ = some (.pointer (some ⟨pm, 0, none⟩)) ∧ True := ⟨a1.cell 0, trivial⟩
  have l0 : U.cell? ⟨w.heap.size + 1, 0, none⟩ = some (.pointer (some ⟨p2, 0, none⟩)) := a2.cell 0
  have l1 : U.cell? ⟨w.heap.size + 1, 1, none⟩ = some (.int .i64 ax) := a2.cell 1
  have l2 : U.cell? ⟨w.heap.size + 1, 2, none⟩ = some (.int .i64 ay) := a2.cell 2
  have l3 : U.cell? ⟨w.heap.size + 1, 3, none⟩ = some (.int .i64 s) := a2.cell 3
  have l4 : U.cell? ⟨w.heap.size + 1, 4, none⟩ = some (.int .i64 al) := a2.cell 4
  have l5 : U.cell? ⟨w.heap.size + 1, 5, none⟩ = some (.int .i64 cp.a) := a2.cell 5
  have l6 : U.cell? ⟨w.heap.size + 1, 6, none⟩ = some (.int .i64 cp.b) := a2.cell 6
  have l7 : U.cell? ⟨w.heap.size + 1, 7, none⟩ = some (.int .i64 cp.c) := a2.cell 7
  have l8 : U.cell? ⟨w.heap.size + 1, 8, none⟩ = some (.int .i64 cp.d) := a2.cell 8
  have GU := (Gr.refl U).drew
  refine wpIn_mono (Q := Exit.then K (fun _ _ _ => False)) ?_ then_false
  gi_region_with_o (first
    | (refine ⟨trivial, ?_⟩; gi_at_call 94; refine (callsIn_wide.2 (cB _ G0.drew)).mono ?_; rintro e w2 ⟨rfl, g2⟩; have A2 := (a1.drew).gr g2; have y0 : w2.cell? ⟨w.heap.size, 0, none⟩ = some (.pointer (some ⟨pm, 0, none⟩)) := A2.cell 0)
    | (refine ⟨trivial, ?_⟩; gi_at_call 100; refine (callsIn_wide.2 (cX _ (G0.drew.trans g2))).mono ?_; rintro e w3 ⟨rfl, g3⟩)
    | (refine ⟨trivial, ?_⟩; gi_at_call 102; refine (callsIn_wide.2 (cC _)).mono ?_; rintro e w4 ⟨rfl, g4⟩)
    | (refine ⟨trivial, ?_⟩; gi_at_call 130; refine (callsIn_wide.2 (cW _ (((G0.drew.trans g2).trans g3).trans g4))).mono ?_; rintro e w5 ⟨A, c, R, rfl, hc5, own5, hQ5, g5⟩)
    | (refine ⟨trivial, ?_⟩; gi_at_call 133; refine (callsIn_wide.2 (points1 _ _ _ _)).mono ?_; rintro e w6 ⟨rfl, rfl⟩))
  all_goals
    have g24 := (GU.trans g2).trans (g3.trans g4)
    exact rest w5 A c R (g24.bl.trans g5) (own5.base (by have := g24.size; omega)) hQ5

end Go.Proofs.YtablogiielclaaaGreat
namespace Go.Proofs.YtablogiielclaaaGreat
open Go.RowKit Go.Sort

theorem afL_has {s ax ay : Int} (hs : 1 ≤ s) (R : List Rc) (x y : Int) : hasL (R.map (afR s ax ay)) x y = hasL R ((x - ax) / s) ((y - ay) / s) := by
  induction R with
  | nil => rfl
  | cons r l ih =>
    unfold hasL at *
    rw [List.map_cons, List.any_cons, List.any_cons, ih]
    congr 1
    have e1 := span_has (a := r.a) (c := r.c) (ax := ax) (x := x) hs
    have e2 := span_has (a := r.b) (c := r.d) (ax := ay) (x := y) hs
    unfold afR hasB
    dsimp only
    rw [show s * r.a + ax = ax + r.a * s from by rw [Int.mul_comm, Int.add_comm], show s * r.b + ay = ay + r.b * s from by rw [Int.mul_comm, Int.add_comm], show s * r.c + ax = ax + r.c * s from by rw [Int.mul_comm, Int.add_comm], show s * r.d + ay = ay + r.d * s from by rw [Int.mul_comm, Int.add_comm], decide_eq_decide]
    exact ⟨fun ⟨a, b, c, d⟩ => ⟨(e1.1 ⟨a, b⟩).1, (e1.1 ⟨a, b⟩).2, (e2.1 ⟨c, d⟩).1, (e2.1 ⟨c, d⟩).2⟩, fun ⟨a, b, c, d⟩ => ⟨(e1.2 ⟨a, b⟩).1, (e1.2 ⟨a, b⟩).2, (e2.2 ⟨c, d⟩).1, (e2.2 ⟨c, d⟩).2⟩⟩

/-- A region that lies in a box from 0. -/
def InBox (W H : Nat) (R : List Rc) : Prop := ∀ r ∈ R, 0 ≤ r.a ∧ r.a < r.c ∧ r.c ≤ W ∧ 0 ≤ r.b ∧ r.b < r.d ∧ r.d ≤ H
theorem reg_in {W H : Nat} {R : List Rc} (hR : IsReg R) (h : ∀ x y, hasL R x y = true → hasB 0 0 W H x y = true) : InBox W H R := fun r hr => by
  obtain ⟨B, hB, rfl⟩ := hR
  obtain ⟨n1, n2⟩ := rects_ne hB.toWk r hr
  have p1 : hasL (rectsL B) r.a r.b = true := List.any_eq_true.2 ⟨r, hr, by unfold hasB; rw [decide_eq_true_eq]; omega⟩
  have p2 : hasL (rectsL B) (r.c - 1) (r.d - 1) = true := List.any_eq_true.2 ⟨r, hr, by unfold hasB; rw [decide_eq_true_eq]; omega⟩
  have q1 := of_decide_eq_true (h _ _ p1)
  have q2 := of_decide_eq_true (h _ _ p2)
  omega

theorem eq_ok {F1 : Rc → Rc} {F2 : Rc → Int} {L R : List Rc} {z : Int} (h : EQ F1 F2 L R z) (h0 : ∀ r ∈ L, F2 r = 0) : R = L.map F1 := by
  rcases h with ⟨k, r, hk, _, he, hne, _⟩ | ⟨_, h, _⟩
  · exact absurd (he.symm.trans (h0 r (List.mem_of_getElem? hk))) hne
  · exact h
theorem sc_all {W H : Nat} {s al ax ay : Int} {R S : List Rc} {z : Int} (hW : W ≤ 256) (hH : H ≤ 256) (hM : lyMay W H s al ax ay = true) (hb : InBox W H R) (h : EQ (scF s) (scE s) R S z) : S = R.map (afR s 0 0) := by
  obtain ⟨h1, h2, _⟩ := lmay_bd hM
  have h0 : ∀ r ∈ R, scE s r = 0 := fun r hr => by
    obtain ⟨b1, b2, b3, b4, b5, b6⟩ := hb r hr
    exact (scale_box hW hH h1 h2 r.a r.b r.c r.d b1 (by omega) b3 b4 (by omega) b6).1
  rw [eq_ok h h0]
  exact List.map_congr_left fun r hr => (sc_af h1 h2 (h0 r hr)).1
theorem sc_bd {W H : Nat} {s al ax ay : Int} {R : List Rc} (hW : W ≤ 256) (hH : H ≤ 256) (hM : lyMay W H s al ax ay = true) (hb : InBox W H R) : ∀ r ∈ R.map (afR s 0 0), 0 ≤ r.a ∧ r.a ≤ r.c ∧ r.c ≤ W * s ∧ 0 ≤ r.b ∧ r.b ≤ r.d ∧ r.d ≤ H * s ∧ W * s ≤ 2048 ∧ H * s ≤ 2048 := fun q hq => by
  obtain ⟨h1, h2, _⟩ := lmay_bd hM
  obtain ⟨r, hr, rfl⟩ := List.mem_map.1 hq
  obtain ⟨b1, b2, b3, b4, b5, b6⟩ := hb r hr
  obtain ⟨_, _, i1, i2, i3, i4, i5, i6, i7, i8⟩ := scale_box hW hH h1 h2 r.a r.b r.c r.d b1 (by omega) b3 b4 (by omega) b6
  unfold afR
  dsimp only
  omega
theorem mv_all {W H : Nat} {s al ax ay : Int} {R M : List Rc} {z : Int} (hW : W ≤ 256) (hH : H ≤ 256) (hM : lyMay W H s al ax ay = true) (hb : InBox W H R) (h : EQ (mvF ax ay) (mvE ax ay) (R.map (afR s 0 0)) M z) : M = R.map (afR s ax ay) := by
  obtain ⟨_, _, _, _, h5, h6, h7, h8, h9, h10⟩ := lmay_bd hM
  have h0 : ∀ r ∈ R.map (afR s 0 0), mvE ax ay r = 0 := fun r hr => by
    obtain ⟨b1, b2, b3, b4, b5, b6, b7, b8⟩ := sc_bd hW hH hM hb r hr
    exact (moveR_t (by unfold moveB mayB; simp only [Bool.and_eq_true, decide_eq_true_eq]; omega)).2.2.2.2
  rw [eq_ok h h0, List.map_congr_left fun r hr => mv_af (h0 r hr), List.map_map]
  refine List.map_congr_left fun r _ => ?_
  unfold afR
  simp only [Function.comp, Int.one_mul, Int.add_zero]

/-- The square of one point. -/
def sqR (W i : Nat) : Rc := ⟨(i % W : Nat), (i / W : Nat), (i % W : Nat) + 1, (i / W : Nat) + 1⟩
/-- Whether the document takes a point. -/
def plB (cp : Rc) (F : List Int) (W : Nat) (al : Int) (LW : List Rc) (sd : Bool) (i : Nat) : Bool := (!sd || (pA (F.getD i 0) == 255 && al == 255)) && (hasB cp.a cp.b cp.c cp.d (i % W : Nat) (i / W : Nat) && hasL LW (i % W : Nat) (i / W : Nat))
def plS (P : Nat → Bool) (W k : Nat) : List Rc := ((List.range k).filter P).map (sqR W)
theorem plS_succ (P : Nat → Bool) (W k : Nat) : plS P W (k + 1) = if P k = true then plS P W k ++ [sqR W k] else plS P W k := by
  unfold plS
  rw [List.range_succ, List.filter_append, List.map_append]
  split <;> simp [*]
theorem plS_len (P : Nat → Bool) (W k : Nat) : (plS P W k).length ≤ k := by
  unfold plS
  rw [List.length_map]
  exact Nat.le_trans (List.length_filter_le _ _) (by simp)
theorem plS_has {W H : Nat} (P : Nat → Bool) (hW : 1 ≤ W) (u v : Int) : hasL (plS P W (W * H)) u v = (hasB 0 0 W H u v && P (ixP W (u, v))) := by
  cases hh : hasB 0 0 W H u v with
  | false =>
    rw [Bool.false_and]
    refine hasL_false fun r hr => ?_
    obtain ⟨i, hi, rfl⟩ := List.mem_map.1 hr
    have hi' := List.mem_range.1 (List.mem_filter.1 hi).1
    have m1 := Nat.mod_lt i hW
    have m2 := (Nat.div_lt_iff_lt_mul hW).2 (by rw [Nat.mul_comm]; exact hi')
    have h0 := of_decide_eq_false hh
    unfold sqR hasB
    dsimp only
    rw [decide_eq_false_iff_not]
    generalize i % W = p at *
    generalize i / W = q at *
    omega
  | true =>
    obtain ⟨i, j, rfl, rfl, hi, hj⟩ := has_nat hh
    rw [Bool.true_and, ixP_nat]
    have e1 : (j * W + i) % W = i := by rw [Nat.add_comm, Nat.add_mul_mod_self_right, Nat.mod_eq_of_lt hi]
    have e2 : (j * W + i) / W = j := by rw [Nat.add_comm, Nat.add_mul_div_right _ _ hW, Nat.div_eq_of_lt hi, Nat.zero_add]
    cases hp : P (j * W + i) with
    | true =>
      refine List.any_eq_true.2 ⟨sqR W (j * W + i), List.mem_map.2 ⟨_, List.mem_filter.2 ⟨List.mem_range.2 (row_of hi hj), hp⟩, rfl⟩, ?_⟩
      unfold sqR hasB
      dsimp only
      rw [e1, e2, decide_eq_true_eq]
      omega
    | false =>
      refine hasL_false fun r hr => ?_
      obtain ⟨k, hk, rfl⟩ := List.mem_map.1 hr
      have hk2 := (List.mem_filter.1 hk).2
      unfold sqR hasB
      dsimp only
      rw [decide_eq_false_iff_not]
      intro hx
      have x12 : k % W = i ∧ k / W = j := by
        generalize k % W = p at *
        generalize k / W = q at *
        omega
      obtain ⟨x1, x2⟩ := x12
      have : k = j * W + i := by
        have := Nat.div_add_mod k W
        rw [x1, x2, Nat.mul_comm] at this
        exact this.symm
      rw [this, hp] at hk2
      cases hk2
theorem plB_at {W H : Nat} (cp : Rc) (F : List Int) (al : Int) (LW : List Rc) (sd : Bool) (hW : 1 ≤ W) (_hl : F.length = W * H) (u v : Int) :
    (hasB 0 0 W H u v && plB cp F W al LW sd (ixP W (u, v))) = (hasB 0 0 W H u v && ((!sd || (pA (atV W H F u v) == 255 && al == 255)) && (hasB cp.a cp.b cp.c cp.d u v && hasL LW u v))) := by
  cases hh : hasB 0 0 W H u v with
  | false => rfl
  | true =>
    have hat : atV W H F u v = F.getD (ixP W (u, v)) 0 := by unfold atV; rw [if_pos hh]
    obtain ⟨i, j, rfl, rfl, hi, hj⟩ := has_nat hh
    have e1 : (j * W + i) % W = i := by rw [Nat.add_comm, Nat.add_mul_mod_self_right, Nat.mod_eq_of_lt hi]
    have e2 : (j * W + i) / W = j := by rw [Nat.add_comm, Nat.add_mul_div_right _ _ hW, Nat.div_eq_of_lt hi, Nat.zero_add]
    rw [hat]
    unfold plB
    rw [ixP_nat, e1, e2]

/-- The places where squares of a layer begin and end. -/
def gAx (s ax : Int) : List Int := (List.range 17).map fun (i : Nat) => s * (i : Int) + ax
theorem gAx_mem {s ax : Int} {i : Nat} (h : i ≤ 16) : s * (i : Int) + ax ∈ gAx s ax := List.mem_map.2 ⟨i, List.mem_range.2 (by omega), rfl⟩
theorem gAx_in {W H : Nat} {s ax ay : Int} (hW : W ≤ 16) (hH : H ≤ 16) (hw1 : 1 ≤ W) (P : Nat → Bool) : InNe (gAx s ax) (gAx s ay) ((plS P W (W * H)).map (afR s ax ay)) := fun q hq _ => by
  obtain ⟨r, hr, rfl⟩ := List.mem_map.1 hq
  obtain ⟨i, hi, rfl⟩ := List.mem_map.1 hr
  have hi' := List.mem_range.1 (List.mem_filter.1 hi).1
  have m1 := Nat.mod_lt i hw1
  have m2 := (Nat.div_lt_iff_lt_mul hw1).2 (by rw [Nat.mul_comm]; exact hi')
  exact ⟨gAx_mem (by omega), by show s * ((i % W : Nat) + 1) + ax ∈ _; exact gAx_mem (i := i % W + 1) (by omega), gAx_mem (by omega), by show s * ((i / W : Nat) + 1) + ay ∈ _; exact gAx_mem (i := i / W + 1) (by omega)⟩
theorem gAx_grid {s ax ay : Int} (h1 : 1 ≤ s ∧ s ≤ 3) (h2 : -1048576 ≤ ax ∧ ax ≤ 1048576) (_h3 : -1048576 ≤ ay ∧ ay ≤ 1048576) : Grid (gAx s ax) (gAx s ay) := by
  refine ⟨by simp [gAx], by simp [gAx], fun x hx => ?_⟩
  have hs : s = 1 ∨ s = 2 ∨ s = 3 := by omega
  obtain ⟨i, hi, rfl⟩ := List.mem_map.1 hx
  have := List.mem_range.1 hi
  unfold I64
  rcases hs with rfl | rfl | rfl <;> omega

theorem own_in {cp : Rc} {W H : Nat} {LW R : List Rc} (hQ : OfQ g256 g256 (cutL (ownR cp W H) LW) R) (x y : Int) : hasL R x y = (hasB 0 0 W H x y && (hasB cp.a cp.b cp.c cp.d x y && hasL LW x y)) := by
  rw [hQ.has, cutL_has, ownR, cutR_has, Bool.and_assoc]
theorem own_box {cp : Rc} {W H : Nat} {LW R : List Rc} (hQ : OfQ g256 g256 (cutL (ownR cp W H) LW) R) : InBox W H R := reg_in hQ.reg fun x y h => by
  rw [own_in hQ] at h
  exact (Bool.and_eq_true_iff.1 h).1
/-- Place of both sides. -/
theorem place_eq {cp : Rc} {W H : Nat} {F : List Int} {s al ax ay : Int} {LW R D : List Rc} {X Y : List Int} (hs : 1 ≤ s) (hW : 1 ≤ W) (hl : F.length = W * H) (hQ : OfQ g256 g256 (cutL (ownR cp W H) LW) R)
    (hD : OfQ X Y ((plS (plB cp F W al LW false) W (W * H)).map (afR s ax ay)) D) : R.map (afR s ax ay) = D := by
  refine reg_same (reg_af hs ax ay hQ.reg) hD.reg fun x y => ?_
  rw [afL_has hs, hD.has, afL_has hs, plS_has _ hW, plB_at cp F al LW false hW hl, own_in hQ]
  rfl
/-- Solid of both sides. -/
theorem solid_eq {cp : Rc} {W H : Nat} {F : List Int} {s al ax ay : Int} {LW R S T D : List Rc} {X Y : List Int} (hs : 1 ≤ s) (hW : 1 ≤ W) (hl : F.length = W * H) (ha : al = 255) (hQ : OfQ g256 g256 (cutL (ownR cp W H) LW) R)
    (hS : ∀ x y, hasL S x y = (hasL R x y && (pA (atV W H F x y) == 255))) (hT : OfQ g256 g256 S T)
    (hD : OfQ X Y ((plS (plB cp F W al LW true) W (W * H)).map (afR s ax ay)) D) : T.map (afR s ax ay) = D := by
  refine reg_same (reg_af hs ax ay hT.reg) hD.reg fun x y => ?_
  rw [afL_has hs, hD.has, afL_has hs, plS_has _ hW, plB_at cp F al LW true hW hl, hT.has, hS, own_in hQ, ha]
  cases hasB 0 0 W H ((x - ax) / s) ((y - ay) / s) <;> cases pA (atV W H F ((x - ax) / s) ((y - ay) / s)) == 255 <;> simp
theorem solid_box {cp : Rc} {W H : Nat} {F : List Int} {LW R S T : List Rc} (hQ : OfQ g256 g256 (cutL (ownR cp W H) LW) R)
    (hS : ∀ x y, hasL S x y = (hasL R x y && (pA (atV W H F x y) == 255))) (hT : OfQ g256 g256 S T) : InBox W H T := reg_in hT.reg fun x y h => by
  rw [hT.has, hS, own_in hQ] at h
  exact (Bool.and_eq_true_iff.1 (Bool.and_eq_true_iff.1 h).1).1
/-- Where not all is opaque nothing is solid. -/
theorem solid_nil {cp : Rc} {W H : Nat} {F : List Int} {s al ax ay : Int} {LW D : List Rc} {X Y : List Int} (ha : al ≠ 255)
    (hD : OfQ X Y ((plS (plB cp F W al LW true) W (W * H)).map (afR s ax ay)) D) : D = [] := by
  have hp : plS (plB cp F W al LW true) W (W * H) = [] := by
    unfold plS
    rw [List.map_eq_nil_iff, List.filter_eq_nil_iff]
    intro i _
    unfold plB
    have : (al == 255) = false := by simp [ha]
    rw [this]
    simp
  rw [hp] at hD
  refine reg_same hD.reg ⟨[], ⟨Wk.nil, by simp⟩, rfl⟩ fun x y => hD.has x y

end Go.Proofs.YtablogiielclaaaGreat
namespace Go.Proofs.YtablogiielclaaaGreat
open Go.RowKit Go.Sort

set_option maxRecDepth 100000 in
set_option maxHeartbeats 4000000 in
theorem allOn1 (px : Option Addr) {W H : Nat} (ax ay s al : Int) (cp : Rc) (A : Option Addr) (c : Nat) (R : List Rc) (w : World) (hW : W ≤ 256) (hH : H ≤ 256) (hM : lyMay W H s al ax ay = true) (hA : Rs w A R) (hl : R.length ≤ 100000000) (hb : InBox W H R) :
    Calls Tryz.prog 129 #[.agg #[.pointer px, .int .i64 ax, .int .i64 ay, .int .i64 s, .int .i64 al, .int .i64 cp.a, .int .i64 cp.b, .int .i64 cp.c, .int .i64 cp.d], .slice A R.length c] w (WQ w (fun M => M = R.map (afR s ax ay))) := by
  obtain ⟨m1, m2, _, _, m5, m6, m7, m8, _, _⟩ := lmay_bd hM
  have hax : I64 ax := by unfold I64; omega
  have hay : I64 ay := by unfold I64; omega
  have cs := fun (w' : World) (g : Bl w w') => scaleR1 A c R s w' (hA.bl g) hl m1 m2
  have cm := fun (A' : Option Addr) (c' : Nat) (S : List Rc) (w' : World) (h : S = R.map (afR s 0 0)) (hS : Rs w' A' S) => moveR1 A' c' S ax ay w' hS (by rw [h, List.length_map]; exact hl) (fun r hr => by
    rw [h] at hr
    obtain ⟨b1, b2, b3, b4, b5, b6, b7, b8⟩ := sc_bd hW hH hM hb r hr
    unfold Bd
    omega) hax hay
  have hsc := fun (S : List Rc) (z : Int) (h : EQ (scF s) (scE s) R S z) => sc_all hW hH hM hb h
  have hmv := fun (S M : List Rc) (z : Int) (hS : S = R.map (afR s 0 0)) (h : EQ (mvF ax ay) (mvE ax ay) S M z) => by rw [hS] at h; exact mv_all hW hH hM hb h
  replace cs := Lib.hid cs
  replace cm := Lib.hid cm
  replace hsc := Lib.hid hsc
  replace hmv := Lib.hid hmv
  clear hM hb hA
  have B0 := At.new w #[.pointer px, .int .i64 ax, .int .i64 ay, .int .i64 s, .int .i64 al, .int .i64 cp.a, .int .i64 cp.b, .int .i64 cp.c, .int .i64 cp.d] 65
  have g0 := (Bl.refl w).alloc (.cells #[.pointer px, .int .i64 ax, .int .i64 ay, .int .i64 s, .int .i64 al, .int .i64 cp.a, .int .i64 cp.b, .int .i64 cp.c, .int .i64 cp.d] 65)
  go_enter Tryz.func129, Tryz.ntmps129
  go_wp2_with fail
  refine (cs.out _ g0).mono ?_
  rintro e v1 ⟨A1, c1, S, z1, rfl, o1, q1, g1⟩
  have hS := Lib.hid (hsc.out S z1 q1)
  replace B0 := B0.bl g1
  have gg := g0.trans g1
  have x1 : v1.cell? ⟨w.heap.size, 1, none⟩ = some (.int .i64 ax) := B0.cell 1
  have x2 : v1.cell? ⟨w.heap.size, 2, none⟩ = some (.int .i64 ay) := B0.cell 2
  clear q1 cs hsc
  go_wp2_with fail
  refine (cm.out A1 c1 S _ hS.out o1.rs).mono ?_
  rintro e v2 ⟨A2, c2, M, z2, rfl, o2, q2, g2⟩
  have hMM := Lib.hid (hmv.out S M z2 hS.out q2)
  have hcap := o2.cap
  have ow := o2.base (B' := w.heap.size) gg.size
  clear q2 cm hmv hS o1 o2
  go_wp2
  go_ret
  exact ⟨A2, c2, M, rfl, hcap, ow, hMM.out, gg.trans g2⟩

/-- What Place tells. -/
def PlQ (cp : Rc) (W H : Nat) (s ax ay : Int) (LW M : List Rc) : Prop := ∃ R, OfQ g256 g256 (cutL (ownR cp W H) LW) R ∧ M = R.map (afR s ax ay)
set_option maxRecDepth 100000 in
set_option maxHeartbeats 4000000 in
theorem place1X {pm pc W H : Nat} {L : List Int} {Sp : List Value} (ax ay s al : Int) (cp : Rc) (A : Option Addr) (c : Nat) (LW : List Rc) (w : World) (hI : ImgX w pm pc W H L Sp) (hM : lyMay W H s al ax ay = true) (hA : Rs w A LW) (hl : LW.length ≤ 1000000) :
    Calls Tryz.prog 55 #[.agg #[.pointer (some ⟨pm, 0, none⟩), .int .i64 ax, .int .i64 ay, .int .i64 s, .int .i64 al, .int .i64 cp.a, .int .i64 cp.b, .int .i64 cp.c, .int .i64 cp.d], .slice A LW.length c] w (WQ w (PlQ cp W H s ax ay LW)) := by
  have hw2 := hI.w2
  have hh2 := hI.h2
  have ho := ownR_bd cp W H
  have c1 := fun (w' : World) (g : Bl w w') => pclip1X ax ay s al cp w' (hI.bl g) hM
  have c2 := fun (w' : World) (g : Bl w w') => within1 (ownR cp W H) (by omega) A c LW w' hl (hA.bl g)
  have c3 := fun (A' : Option Addr) (c' : Nat) (R : List Rc) (w' : World) (hQ : OfQ g256 g256 (cutL (ownR cp W H) LW) R) (hR : Rs w' A' R) => allOn1 (some ⟨pm, 0, none⟩) ax ay s al cp A' c' R w' hw2 hh2 hM hR (Nat.le_trans (reg_len hQ.reg hQ.inr grid256) (by decide)) (own_box hQ)
  have fin := fun (R M : List Rc) (hQ : OfQ g256 g256 (cutL (ownR cp W H) LW) R) (h : M = R.map (afR s ax ay)) => (show PlQ cp W H s ax ay LW M from ⟨R, hQ, h⟩)
  generalize PlQ cp W H s ax ay LW = PQ at *
  replace c1 := Lib.hid c1
  replace c2 := Lib.hid c2
  replace c3 := Lib.hid c3
  replace fin := Lib.hid fin
  generalize ownR cp W H = q at *
  clear hM hA hI ho
  have B0 := At.new w #[.pointer (some ⟨pm, 0, none⟩), .int .i64 ax, .int .i64 ay, .int .i64 s, .int .i64 al, .int .i64 cp.a, .int .i64 cp.b, .int .i64 cp.c, .int .i64 cp.d] 65
  have g0 := (Bl.refl w).alloc (.cells #[.pointer (some ⟨pm, 0, none⟩), .int .i64 ax, .int .i64 ay, .int .i64 s, .int .i64 al, .int .i64 cp.a, .int .i64 cp.b, .int .i64 cp.c, .int .i64 cp.d] 65)
  have hw0 : w.heap.size < (w.alloc (.cells #[.pointer (some ⟨pm, 0, none⟩), .int .i64 ax, .int .i64 ay, .int .i64 s, .int .i64 al, .int .i64 cp.a, .int .i64 cp.b, .int .i64 cp.c, .int .i64 cp.d] 65)).heap.size := B0.lt
  go_enter Tryz.func55, Tryz.ntmps55
  go_upto_region 1 with fail
  obtain ⟨W0, hW0⟩ : ∃ W0, W0 = w.alloc (.cells #[.pointer (some ⟨pm, 0, none⟩), .int .i64 ax, .int .i64 ay, .int .i64 s, .int .i64 al, .int .i64 cp.a, .int .i64 cp.b, .int .i64 cp.c, .int .i64 cp.d] 65) := ⟨_, rfl⟩
  rw [← hW0] at B0 g0 hw0 ⊢
  clear hW0
  replace c1 := Lib.hid (fun (V : World) (g : Bl W0 V) => c1.out V (g0.trans g))
  replace c2 := Lib.hid (fun (V : World) (g : Bl W0 V) => c2.out V (g0.trans g))
  have SK := Lib.hid (fun (V : World) (g : Bl W0 V) => (show V.cell? ⟨w.heap.size, 0, none⟩ = some (.pointer (some ⟨pm, 0, none⟩)) ∧ V.cell? ⟨w.heap.size, 1, none⟩ = some (.int .i64 ax) ∧ V.cell? ⟨w.heap.size, 2, none⟩ = some (.int .i64 ay) ∧ V.cell? ⟨w.heap.size, 3, none⟩ = some (.int .i64 s) ∧ V.cell? ⟨w.heap.size, 4, none⟩ = some (.int .i64 al) ∧ V.cell? ⟨w.heap.size, 5, none⟩ = some (.int .i64 cp.a) ∧ V.cell? ⟨w.heap.size, 6, none⟩ = some (.int .i64 cp.b) ∧ V.cell? ⟨w.heap.size, 7, none⟩ = some (.int .i64 cp.c) ∧ V.cell? ⟨w.heap.size, 8, none⟩ = some (.int .i64 cp.d) ∧ Bl W0 V from ⟨(B0.bl g).cell 0, (B0.bl g).cell 1, (B0.bl g).cell 2, (B0.bl g).cell 3, (B0.bl g).cell 4, (B0.bl g).cell 5, (B0.bl g).cell 6, (B0.bl g).cell 7, (B0.bl g).cell 8, g⟩))
  clear B0
  go_region_held3 (fun V => V.cell? ⟨w.heap.size, 0, none⟩ = some (.pointer (some ⟨pm, 0, none⟩)) ∧ V.cell? ⟨w.heap.size, 1, none⟩ = some (.int .i64 ax) ∧ V.cell? ⟨w.heap.size, 2, none⟩ = some (.int .i64 ay) ∧ V.cell? ⟨w.heap.size, 3, none⟩ = some (.int .i64 s) ∧ V.cell? ⟨w.heap.size, 4, none⟩ = some (.int .i64 al) ∧ V.cell? ⟨w.heap.size, 5, none⟩ = some (.int .i64 cp.a) ∧ V.cell? ⟨w.heap.size, 6, none⟩ = some (.int .i64 cp.b) ∧ V.cell? ⟨w.heap.size, 7, none⟩ = some (.int .i64 cp.c) ∧ V.cell? ⟨w.heap.size, 8, none⟩ = some (.int .i64 cp.d) ∧ Bl W0 V) ((refine SK.out _ ?_; repeat (first | with_reducible assumption | with_reducible exact Bl.refl _ | with_reducible exact (And.right (And.right (And.right (And.right (And.right (And.right (And.right (And.right (And.right (by assumption)))))))))) | with_reducible exact Bl.trans (And.right (And.right (And.right (And.right (And.right (And.right (And.right (And.right (And.right (by assumption)))))))))) (by assumption) | with_reducible exact Bl.gr (And.right (And.right (And.right (And.right (And.right (And.right (And.right (And.right (And.right (by assumption)))))))))) (by assumption) | with_reducible apply Bl.drew | with_reducible apply Bl.alloc))) ((first | (go_at_call 131; (refine (c1.out _ (And.right (And.right (And.right (And.right (And.right (And.right (And.right (And.right (And.right (by assumption))))))))))).mono ?_); rintro e V1 ⟨rfl, g1⟩; have G1 : Bl W0 V1 := Bl.gr (And.right (And.right (And.right (And.right (And.right (And.right (And.right (And.right (And.right (by assumption)))))))))) g1) | (go_at_call 130; (refine (c2.out _ (And.right (And.right (And.right (And.right (And.right (And.right (And.right (And.right (And.right (by assumption))))))))))).mono ?_); rintro e V2 ⟨A2, k2, R2, rfl, _, o2, Q2, g2⟩; have G2 : Bl W0 V2 := Bl.trans (And.right (And.right (And.right (And.right (And.right (And.right (And.right (And.right (And.right (by assumption)))))))))) g2; replace Q2 := Lib.hid Q2; have O2 := Lib.hid o2) | (go_at_call 129; (refine (c3.out _ _ _ _ Q2.out (Rs.bl O2.out.rs (by first | with_reducible exact Bl.refl _ | with_reducible exact (Bl.refl _).drew))).mono ?_); rintro e V3 ⟨A3, k3, R3, rfl, hc3, o3, Q3, g3⟩; have G3 : Bl W0 V3 := Bl.trans (And.right (And.right (And.right (And.right (And.right (And.right (And.right (And.right (And.right (by assumption)))))))))) g3; have z3 := Lib.hid (Nat.le_trans (Nat.le_of_lt hw0) (Bl.size (And.right (And.right (And.right (And.right (And.right (And.right (And.right (And.right (And.right (by assumption)))))))))))); have O3 := Lib.hid o3; have F3 := Lib.hid (fin.out _ _ Q2.out Q3); clear Q3)))
  go_wp2
  go_ret
  exact ⟨A3, k3, R3, rfl, hc3, O3.out.base z3.out, F3.out, g0.trans G3⟩
theorem place1 {pm pc W H : Nat} {L : List Int} (ax ay s al : Int) (cp : Rc) (A : Option Addr) (c : Nat) (LW : List Rc) (w : World) (hI : Img w pm pc W H L) (hM : lyMay W H s al ax ay = true) (hA : Rs w A LW) (hl : LW.length ≤ 1000000) :
    Calls Tryz.prog 55 #[.agg #[.pointer (some ⟨pm, 0, none⟩), .int .i64 ax, .int .i64 ay, .int .i64 s, .int .i64 al, .int .i64 cp.a, .int .i64 cp.b, .int .i64 cp.c, .int .i64 cp.d], .slice A LW.length c] w (WQ w (PlQ cp W H s ax ay LW)) :=
  place1X ax ay s al cp A c LW w hI.x hM hA hl

end Go.Proofs.YtablogiielclaaaGreat
