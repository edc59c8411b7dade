/-
  What is proved: the statement RectCuts: the points that both have are the document's. No conditions.
-/
import Derived.Test.YtdijfbmccnficaaA3
import Derived.Test.YtdijfbmccnficaaA4
import Derived.Test.YtdijfbmccnficaaB1
import Derived.Test.YtdijfbmccnficaaB2
import Derived.Test.YtdijfbmccnficaaB3
import Derived.Deep.DrawnRows
namespace Go.Proofs.Ytdijfbmccnficaa
open Go.ChangeShapes Go.WideShapes Go.ChangeAt Go.RowKit Go.Joins Go.Sort

theorem At.set4 {w : World} {b : Nat} {z0 z1 z2 z3 : Value} {t : TypeId} (h : At w b #[z0, z1, z2, z3] t) (u0 u1 u2 u3 : Value) :
    At ((((w.setCell ⟨b, 0, none⟩ u0).setCell ⟨b, 1, none⟩ u1).setCell ⟨b, 2, none⟩ u2).setCell ⟨b, 3, none⟩ u3) b #[u0, u1, u2, u3] t := by
  have h1 := block_setCell (i := 0) h u0
  have h2 := block_setCell (i := 1) h1 u1
  have h3 := block_setCell (i := 2) h2 u2
  have h4 := block_setCell (i := 3) h3 u3
  unfold At
  simpa using h4

/-- What the calls of one round hand back. -/
structure Pair (a b c d a' b' c' d' x y e0 e1 e2 e3 : Int) (M U V K : Bool) : Prop where
  cut : ∀ w, Calls Try.prog 19 #[.agg #[.int .i64 a, .int .i64 b, .int .i64 c, .int .i64 d], .agg #[.int .i64 a', .int .i64 b', .int .i64 c', .int .i64 d']] w (Rt w (.agg #[.int .i64 e0, .int .i64 e1, .int .i64 e2, .int .i64 e3]))
  ref : ∀ w, Calls Try.prog 20 #[.agg #[.int .i64 a, .int .i64 b, .int .i64 c, .int .i64 d], .agg #[.int .i64 a', .int .i64 b', .int .i64 c', .int .i64 d']] w (Rt w (.agg #[.int .i64 e0, .int .i64 e1, .int .i64 e2, .int .i64 e3]))
  tuc : ∀ w, Calls Try.prog 19 #[.agg #[.int .i64 a', .int .i64 b', .int .i64 c', .int .i64 d'], .agg #[.int .i64 a, .int .i64 b, .int .i64 c, .int .i64 d]] w (Rt w (.agg #[.int .i64 e0, .int .i64 e1, .int .i64 e2, .int .i64 e3]))
  meets : ∀ w, Calls Try.prog 21 #[.agg #[.int .i64 a, .int .i64 b, .int .i64 c, .int .i64 d], .agg #[.int .i64 a', .int .i64 b', .int .i64 c', .int .i64 d']] w (Rt w (.bool M))
  empty : ∀ w, Calls Try.prog 13 #[.agg #[.int .i64 e0, .int .i64 e1, .int .i64 e2, .int .i64 e3]] w (Rt w (.bool (!M)))
  has : ∀ w, Calls Try.prog 14 #[.agg #[.int .i64 e0, .int .i64 e1, .int .i64 e2, .int .i64 e3], .int .i64 x, .int .i64 y] w (Rt w (.bool (U && V)))
  hasA : ∀ w, Calls Try.prog 15 #[.agg #[.int .i64 a, .int .i64 b, .int .i64 c, .int .i64 d], .int .i64 x, .int .i64 y] w (Rt w (.bool U))
  hasB : ∀ w, Calls Try.prog 15 #[.agg #[.int .i64 a', .int .i64 b', .int .i64 c', .int .i64 d'], .int .i64 x, .int .i64 y] w (Rt w (.bool V))
  covers : ∀ w, Calls Try.prog 22 #[.agg #[.int .i64 a, .int .i64 b, .int .i64 c, .int .i64 d], .agg #[.int .i64 a', .int .i64 b', .int .i64 c', .int .i64 d']] w (Rt w (.bool K))
  refcovers : ∀ w, Calls Try.prog 23 #[.agg #[.int .i64 a, .int .i64 b, .int .i64 c, .int .i64 d], .agg #[.int .i64 a', .int .i64 b', .int .i64 c', .int .i64 d']] w (Rt w (.bool K))

theorem cutR_comm (a b c d a' b' c' d' : Int) : cutR a' b' c' d' a b c d = cutR a b c d a' b' c' d' := by
  unfold cutR
  rw [show max a' a = max a a' from by omega, show max b' b = max b b' from by omega, show min c' c = min c c' from by omega, show min d' d = min d d' from by omega]
theorem cutR_empty (a b c d a' b' c' d' : Int) : emptyB (cutR a b c d a' b' c' d').a (cutR a b c d a' b' c' d').b (cutR a b c d a' b' c' d').c (cutR a b c d a' b' c' d').d = !meetsB a b c d a' b' c' d' := by
  unfold cutR meetsB
  by_cases e : emptyB (max a a') (max b b') (min c c') (min d d') = true
  · rw [if_pos e, e]; rfl
  · rw [if_neg e]; simp only [Bool.not_not]
theorem cutR_has (a b c d a' b' c' d' x y : Int) : hasB (cutR a b c d a' b' c' d').a (cutR a b c d a' b' c' d').b (cutR a b c d a' b' c' d').c (cutR a b c d a' b' c' d').d x y = (hasB a b c d x y && hasB a' b' c' d' x y) := by
  unfold cutR
  by_cases e : emptyB (max a a') (max b b') (min c c') (min d d') = true
  · rw [if_pos e]
    simp only [emptyB, decide_eq_true_eq] at e
    unfold hasB
    rw [Bool.eq_iff_iff]
    simp only [Bool.and_eq_true, decide_eq_true_eq]
    omega
  · rw [if_neg e]
    unfold hasB
    rw [Bool.eq_iff_iff]
    simp only [Bool.and_eq_true, decide_eq_true_eq]
    omega
theorem pair_of (a b c d a' b' c' d' x y : Int) : Pair a b c d a' b' c' d' x y (cutR a b c d a' b' c' d').a (cutR a b c d a' b' c' d').b (cutR a b c d a' b' c' d').c (cutR a b c d a' b' c' d').d
    (meetsB a b c d a' b' c' d') (hasB a b c d x y) (hasB a' b' c' d' x y) (coversB a b c d a' b' c' d') where
  cut := cut1 _ _ _ _ _ _ _ _
  ref := refcutR1 _ _ _ _ _ _ _ _
  tuc := fun w => by have := cut1 a' b' c' d' a b c d w; rw [cutR_comm] at this; exact this
  meets := meets1 _ _ _ _ _ _ _ _
  empty := fun w => by have := refempty1 (cutR a b c d a' b' c' d').a (cutR a b c d a' b' c' d').b (cutR a b c d a' b' c' d').c (cutR a b c d a' b' c' d').d w; rw [cutR_empty] at this; exact this
  has := fun w => by have := has1 (cutR a b c d a' b' c' d').a (cutR a b c d a' b' c' d').b (cutR a b c d a' b' c' d').c (cutR a b c d a' b' c' d').d x y w; rw [cutR_has] at this; exact this
  hasA := refhas1 _ _ _ _ _ _
  hasB := refhas1 _ _ _ _ _ _
  covers := covers1 _ _ _ _ _ _ _ _
  refcovers := refcovers1 _ _ _ _ _ _ _ _

set_option maxRecDepth 100000 in
set_option maxHeartbeats 16000000 in
theorem cuts_core (pa0 pb0 pc0 pd0 pa1 pb1 pc1 pd1 pa2 pb2 pc2 pd2 qa0 qb0 qc0 qd0 qa1 qb1 qc1 qd1 qa2 qb2 qc2 qd2 x y : Int) (E0 : Nat → Int) (E1 : Nat → Int) (E2 : Nat → Int) (E3 : Nat → Int) (M U V K : Nat → Bool) (w : World)
    (hGa : ∀ w, Calls Try.prog 17 #[.agg #[.int .i64 pa0, .int .i64 pb0, .int .i64 pc0, .int .i64 pd0]] w (Rt w (.agg #[.int .i64 pa1, .int .i64 pb1, .int .i64 pc1, .int .i64 pd1]))) (hSa : ∀ w, Calls Try.prog 18 #[.agg #[.int .i64 pa0, .int .i64 pb0, .int .i64 pc0, .int .i64 pd0]] w (Rt w (.agg #[.int .i64 pa2, .int .i64 pb2, .int .i64 pc2, .int .i64 pd2])))
    (hGb : ∀ w, Calls Try.prog 17 #[.agg #[.int .i64 qa0, .int .i64 qb0, .int .i64 qc0, .int .i64 qd0]] w (Rt w (.agg #[.int .i64 qa1, .int .i64 qb1, .int .i64 qc1, .int .i64 qd1]))) (hSb : ∀ w, Calls Try.prog 18 #[.agg #[.int .i64 qa0, .int .i64 qb0, .int .i64 qc0, .int .i64 qd0]] w (Rt w (.agg #[.int .i64 qa2, .int .i64 qb2, .int .i64 qc2, .int .i64 qd2])))
    (h0 : Pair pa0 pb0 pc0 pd0 qa0 qb0 qc0 qd0 x y (E0 0) (E1 0) (E2 0) (E3 0) (M 0) (U 0) (V 0) (K 0))
    (h1 : Pair pa1 pb1 pc1 pd1 qa1 qb1 qc1 qd1 x y (E0 1) (E1 1) (E2 1) (E3 1) (M 1) (U 1) (V 1) (K 1))
    (h2 : Pair pa2 pb2 pc2 pd2 qa2 qb2 qc2 qd2 x y (E0 2) (E1 2) (E2 2) (E3 2) (M 2) (U 2) (V 2) (K 2)) :
    Calls Try.prog 4 #[.agg #[.int .i64 pa0, .int .i64 pb0, .int .i64 pc0, .int .i64 pd0], .agg #[.int .i64 qa0, .int .i64 qb0, .int .i64 qc0, .int .i64 qd0], .int .i64 x, .int .i64 y] w (Rt w (.bool true)) := by
  have mixed : Try.prog.follows .mixedOrders = true := by kernel_rfl
  have L := lives1
  have l1 : ∀ w', Gr ((w.alloc (.cells #[Value.int .i64 pa0, .int .i64 pb0, .int .i64 pc0, .int .i64 pd0] 23)).alloc (.cells #[Value.int .i64 qa0, .int .i64 qb0, .int .i64 qc0, .int .i64 qd0] 23)) w' → ∀ i, w'.cell? ⟨w.heap.size, i, none⟩ = #[Value.int .i64 pa0, .int .i64 pb0, .int .i64 pc0, .int .i64 pd0][i]? := fun w' g => (((At.new w _ _).alloc _).gr g).cell
  have l2 : ∀ w', Gr ((w.alloc (.cells #[Value.int .i64 pa0, .int .i64 pb0, .int .i64 pc0, .int .i64 pd0] 23)).alloc (.cells #[Value.int .i64 qa0, .int .i64 qb0, .int .i64 qc0, .int .i64 qd0] 23)) w' → ∀ i, w'.cell? ⟨w.heap.size + 1, i, none⟩ = #[Value.int .i64 qa0, .int .i64 qb0, .int .i64 qc0, .int .i64 qd0][i]? := fun w' g => by
    have h := (At.new (w.alloc (.cells #[Value.int .i64 pa0, .int .i64 pb0, .int .i64 pc0, .int .i64 pd0] 23)) #[Value.int .i64 qa0, .int .i64 qb0, .int .i64 qc0, .int .i64 qd0] 23).gr g
    simp only [World.size_alloc] at h
    exact h.cell
  go_enter Try.func4, Try.ntmps4
  go_wp2
  go_region_held3 (fun w' => Gr ((w.alloc (.cells #[Value.int .i64 pa0, .int .i64 pb0, .int .i64 pc0, .int .i64 pd0] 23)).alloc (.cells #[Value.int .i64 qa0, .int .i64 qb0, .int .i64 qc0, .int .i64 qd0] 23)) w') ((first | assumption | exact (Gr.refl _).drew | exact Gr.trans (by assumption) g2 | exact Gr.trans (by assumption) g1 | exact Gr.alloc (by assumption) _))
    (first | (go_at_call 17; refine (hGa _).mono ?_; rintro e W1 ⟨rfl, g1⟩) | (go_at_call 18; refine (hSa _).mono ?_; rintro e W2 ⟨rfl, g2⟩))
  have B0 := ((At.new (w.alloc (.cells #[Value.int .i64 pa0, .int .i64 pb0, .int .i64 pc0, .int .i64 pd0] 23)) #[Value.int .i64 qa0, .int .i64 qb0, .int .i64 qc0, .int .i64 qd0] 23).drew.gr g1).gr g2
  simp only [World.size_alloc] at B0
  have G2 : Gr w W2 := ((((Gr.refl w).alloc _).alloc _).drew.trans g1).trans g2
  clear l1 l2 hGa hSa
  have l3 : ∀ w', Gr (W2.alloc (.cells #[Value.int .i64 pa0, .int .i64 pb0, .int .i64 pc0, .int .i64 pd0, .int .i64 pa1, .int .i64 pb1, .int .i64 pc1, .int .i64 pd1, .int .i64 pa2, .int .i64 pb2, .int .i64 pc2, .int .i64 pd2] 23)) w' → ∀ i, w'.cell? ⟨w.heap.size + 1, i, none⟩ = #[Value.int .i64 qa0, .int .i64 qb0, .int .i64 qc0, .int .i64 qd0][i]? := fun w' g => ((B0.alloc _).gr g).cell
  go_wp2
  go_region_held3 (fun w' => Gr (W2.alloc (.cells #[Value.int .i64 pa0, .int .i64 pb0, .int .i64 pc0, .int .i64 pd0, .int .i64 pa1, .int .i64 pb1, .int .i64 pc1, .int .i64 pd1, .int .i64 pa2, .int .i64 pb2, .int .i64 pc2, .int .i64 pd2] 23)) w') ((first | assumption | exact (Gr.refl _).drew | exact Gr.trans (by assumption) g4 | exact Gr.trans (by assumption) g3 | exact Gr.alloc (by assumption) _))
    (first | (go_at_call 17; refine (hGb _).mono ?_; rintro e W3 ⟨rfl, g3⟩) | (go_at_call 18; refine (hSb _).mono ?_; rintro e W4 ⟨rfl, g4⟩))
  have Pt := (((At.new W2 #[Value.int .i64 pa0, .int .i64 pb0, .int .i64 pc0, .int .i64 pd0, .int .i64 pa1, .int .i64 pb1, .int .i64 pc1, .int .i64 pd1, .int .i64 pa2, .int .i64 pb2, .int .i64 pc2, .int .i64 pd2] 23).drew.gr g3).gr g4).alloc (.cells #[Value.int .i64 qa0, .int .i64 qb0, .int .i64 qc0, .int .i64 qd0, .int .i64 qa1, .int .i64 qb1, .int .i64 qc1, .int .i64 qd1, .int .i64 qa2, .int .i64 qb2, .int .i64 qc2, .int .i64 qd2] 23)
  have Qt := At.new W4 #[Value.int .i64 qa0, .int .i64 qb0, .int .i64 qc0, .int .i64 qd0, .int .i64 qa1, .int .i64 qb1, .int .i64 qc1, .int .i64 qd1, .int .i64 qa2, .int .i64 qb2, .int .i64 qc2, .int .i64 qd2] 23
  have G0 : Gr w (W4.alloc (.cells #[Value.int .i64 qa0, .int .i64 qb0, .int .i64 qc0, .int .i64 qd0, .int .i64 qa1, .int .i64 qb1, .int .i64 qc1, .int .i64 qd1, .int .i64 qa2, .int .i64 qb2, .int .i64 qc2, .int .i64 qd2] 23)) := (((G2.alloc _).drew.trans g3).trans g4).alloc _
  clear l3 hGb hSb B0 G2 g1 g2 g3 g4
  go_wp2
  go_loopw [11] (fun i wr => ∃ k : Int, (k = 0 ∨ k = 1 ∨ k = 2 ∨ k = 3) ∧ i = .int .i64 k ∧ Gr w wr ∧ At wr W2.heap.size #[Value.int .i64 pa0, .int .i64 pb0, .int .i64 pc0, .int .i64 pd0, .int .i64 pa1, .int .i64 pb1, .int .i64 pc1, .int .i64 pd1, .int .i64 pa2, .int .i64 pb2, .int .i64 pc2, .int .i64 pd2] 23 ∧ At wr W4.heap.size #[Value.int .i64 qa0, .int .i64 qb0, .int .i64 qc0, .int .i64 qd0, .int .i64 qa1, .int .i64 qb1, .int .i64 qc1, .int .i64 qd1, .int .i64 qa2, .int .i64 qb2, .int .i64 qc2, .int .i64 qd2] 23) (fun i _ => (3 - intOf i).toNat)
  case atStart => exact ⟨0, by omega, rfl, G0, Pt, Qt⟩
  case round =>
    obtain ⟨k, hk, rfl, G, Pw, Qw⟩ := hrel
    have lp : ∀ w', Gr wr w' → ∀ i, w'.cell? ⟨W2.heap.size, i, none⟩ = #[Value.int .i64 pa0, .int .i64 pb0, .int .i64 pc0, .int .i64 pd0, .int .i64 pa1, .int .i64 pb1, .int .i64 pc1, .int .i64 pd1, .int .i64 pa2, .int .i64 pb2, .int .i64 pc2, .int .i64 pd2][i]? := fun w' g => (Pw.gr g).cell
    have lq : ∀ w', Gr wr w' → ∀ i, w'.cell? ⟨W4.heap.size, i, none⟩ = #[Value.int .i64 qa0, .int .i64 qb0, .int .i64 qc0, .int .i64 qd0, .int .i64 qa1, .int .i64 qb1, .int .i64 qc1, .int .i64 qd1, .int .i64 qa2, .int .i64 qb2, .int .i64 qc2, .int .i64 qd2][i]? := fun w' g => (Qw.gr g).cell
    clear Pt Qt G0
    rcases hk with rfl | rfl | rfl | rfl
    · have H := h0
      clear h0 h1 h2
      go_upto_region 6 with fail
      go_cut [12] (fun s wx => ∃ bk : Nat, s = .pointer (some ⟨bk, 0, none⟩) ∧ At wx bk #[Value.int .i64 (E0 0), .int .i64 (E1 0), .int .i64 (E2 0), .int .i64 (E3 0)] 23 ∧ Gr wr wx)
      case first =>
        go_region_held3 (fun w' => Gr wr w') ((first | assumption | exact (Gr.refl _).drew | exact Gr.trans (by assumption) gc | exact Gr.alloc (by assumption) _ | exact ((Gr.refl _).alloc _).drew | exact (Gr.trans ((Gr.refl _).drew) gc).alloc _ | (refine Gr.setCell (Gr.setCell (Gr.setCell (Gr.setCell (by assumption) ?_ _) ?_ _) ?_ _) ?_ _ <;> simp)))
          (first | (go_at_call 19; refine (H.cut _).mono ?_; rintro e Wc ⟨rfl, gc⟩; have zA := ((At.new wr _ _).drew).gr gc; have kz := zA.cell; have fz := zA.free) | (go_at_call 19; refine (H.cut _).mono ?_; rintro e Wc ⟨rfl, gc⟩))
        all_goals (go_wp2_with fail; go_meet; first | exact ⟨wr.heap.size, rfl, zA.set4 _ _ _ _, by assumption⟩ | exact ⟨Wc.heap.size, rfl, At.new Wc _ _, by assumption⟩)
      case rest =>
        obtain ⟨bk, rfl, Cw, Gw⟩ := hcut
        replace Pw := Pw.gr Gw
        replace Qw := Qw.gr Gw
        clear lp lq
        have kP := Pw.cells
        have kQ := Qw.cells
        have kC := Cw.cells
        go_wp2
        refine wp_region_quiet_grown (by assumption) (by kernel_rfl) ?_
        repeat (first | go_big_quiet_step ((first | (go_at_call 20; exact Calls.grown (H.ref _)) | (go_at_call 19; exact Calls.grown (H.tuc _)) | (go_at_call 21; exact Calls.grown (H.meets _)) | (go_at_call 13; exact Calls.grown (H.empty _)))) | quiet_step ((first | (go_at_call 20; exact Calls.grown (H.ref _)) | (go_at_call 19; exact Calls.grown (H.tuc _)) | (go_at_call 21; exact Calls.grown (H.meets _)) | (go_at_call 13; exact Calls.grown (H.empty _)))))
        refine wpQuiet_nil ?_
        intro W8 g8
        replace g8 : Gr _ W8 := g8
        replace Pw := Pw.gr g8
        replace Qw := Qw.gr g8
        replace Cw := Cw.gr g8
        clear kP kQ kC
        go_wp2
        have kP := Pw.cells
        have kQ := Qw.cells
        have kC := Cw.cells
        have Hh := H.has
        have Ha := H.hasA
        by_cases hu : U 0 = true
        · rw [hu] at Hh Ha
          simp only [Bool.true_and] at Hh
          refine wp_region_quiet_grown (by assumption) (by kernel_rfl) ?_
          repeat (first | go_big_quiet_step ((first | (go_at_call 15; with_reducible exact Calls.grown (Ha _)) | (go_at_call 15; with_reducible exact Calls.grown (H.hasB _)) | (go_at_call 14; exact Calls.grown (Hh _)) | (go_at_call 23; exact Calls.grown (H.refcovers _)) | (go_at_call 22; exact Calls.grown (H.covers _)))) | quiet_step ((first | (go_at_call 15; with_reducible exact Calls.grown (Ha _)) | (go_at_call 15; with_reducible exact Calls.grown (H.hasB _)) | (go_at_call 14; exact Calls.grown (Hh _)) | (go_at_call 23; exact Calls.grown (H.refcovers _)) | (go_at_call 22; exact Calls.grown (H.covers _)))))
          refine wpQuiet_nil ?_
          intro W9 g9
          replace g9 : Gr _ W9 := g9
          replace Pw := Pw.gr g9
          replace Qw := Qw.gr g9
          clear kP kQ kC Cw
          go_wp2
          go_roundw
          case rel => exact ⟨1, by omega, rfl, ((G.trans Gw).trans g8).trans g9, Pw, Qw⟩
          case measure => simp [intOf]
        · simp only [Bool.not_eq_true] at hu
          rw [hu] at Hh Ha
          simp only [Bool.false_and] at Hh
          refine wp_region_quiet_grown (by assumption) (by kernel_rfl) ?_
          repeat (first | go_big_quiet_step ((first | (go_at_call 15; with_reducible exact Calls.grown (Ha _)) | (go_at_call 15; with_reducible exact Calls.grown (H.hasB _)) | (go_at_call 14; exact Calls.grown (Hh _)) | (go_at_call 23; exact Calls.grown (H.refcovers _)) | (go_at_call 22; exact Calls.grown (H.covers _)))) | quiet_step ((first | (go_at_call 15; with_reducible exact Calls.grown (Ha _)) | (go_at_call 15; with_reducible exact Calls.grown (H.hasB _)) | (go_at_call 14; exact Calls.grown (Hh _)) | (go_at_call 23; exact Calls.grown (H.refcovers _)) | (go_at_call 22; exact Calls.grown (H.covers _)))))
          refine wpQuiet_nil ?_
          intro W9 g9
          replace g9 : Gr _ W9 := g9
          replace Pw := Pw.gr g9
          replace Qw := Qw.gr g9
          clear kP kQ kC Cw
          go_wp2
          go_roundw
          case rel => exact ⟨1, by omega, rfl, ((G.trans Gw).trans g8).trans g9, Pw, Qw⟩
          case measure => simp [intOf]
    · have H := h1
      clear h0 h1 h2
      go_upto_region 6 with fail
      go_cut [12] (fun s wx => ∃ bk : Nat, s = .pointer (some ⟨bk, 0, none⟩) ∧ At wx bk #[Value.int .i64 (E0 1), .int .i64 (E1 1), .int .i64 (E2 1), .int .i64 (E3 1)] 23 ∧ Gr wr wx)
      case first =>
        go_region_held3 (fun w' => Gr wr w') ((first | assumption | exact (Gr.refl _).drew | exact Gr.trans (by assumption) gc | exact Gr.alloc (by assumption) _ | exact ((Gr.refl _).alloc _).drew | exact (Gr.trans ((Gr.refl _).drew) gc).alloc _ | (refine Gr.setCell (Gr.setCell (Gr.setCell (Gr.setCell (by assumption) ?_ _) ?_ _) ?_ _) ?_ _ <;> simp)))
          (first | (go_at_call 19; refine (H.cut _).mono ?_; rintro e Wc ⟨rfl, gc⟩; have zA := ((At.new wr _ _).drew).gr gc; have kz := zA.cell; have fz := zA.free) | (go_at_call 19; refine (H.cut _).mono ?_; rintro e Wc ⟨rfl, gc⟩))
        all_goals (go_wp2_with fail; go_meet; first | exact ⟨wr.heap.size, rfl, zA.set4 _ _ _ _, by assumption⟩ | exact ⟨Wc.heap.size, rfl, At.new Wc _ _, by assumption⟩)
      case rest =>
        obtain ⟨bk, rfl, Cw, Gw⟩ := hcut
        replace Pw := Pw.gr Gw
        replace Qw := Qw.gr Gw
        clear lp lq
        have kP := Pw.cells
        have kQ := Qw.cells
        have kC := Cw.cells
        go_wp2
        refine wp_region_quiet_grown (by assumption) (by kernel_rfl) ?_
        repeat (first | go_big_quiet_step ((first | (go_at_call 20; exact Calls.grown (H.ref _)) | (go_at_call 19; exact Calls.grown (H.tuc _)) | (go_at_call 21; exact Calls.grown (H.meets _)) | (go_at_call 13; exact Calls.grown (H.empty _)))) | quiet_step ((first | (go_at_call 20; exact Calls.grown (H.ref _)) | (go_at_call 19; exact Calls.grown (H.tuc _)) | (go_at_call 21; exact Calls.grown (H.meets _)) | (go_at_call 13; exact Calls.grown (H.empty _)))))
        refine wpQuiet_nil ?_
        intro W8 g8
        replace g8 : Gr _ W8 := g8
        replace Pw := Pw.gr g8
        replace Qw := Qw.gr g8
        replace Cw := Cw.gr g8
        clear kP kQ kC
        go_wp2
        have kP := Pw.cells
        have kQ := Qw.cells
        have kC := Cw.cells
        have Hh := H.has
        have Ha := H.hasA
        by_cases hu : U 1 = true
        · rw [hu] at Hh Ha
          simp only [Bool.true_and] at Hh
          refine wp_region_quiet_grown (by assumption) (by kernel_rfl) ?_
          repeat (first | go_big_quiet_step ((first | (go_at_call 15; with_reducible exact Calls.grown (Ha _)) | (go_at_call 15; with_reducible exact Calls.grown (H.hasB _)) | (go_at_call 14; exact Calls.grown (Hh _)) | (go_at_call 23; exact Calls.grown (H.refcovers _)) | (go_at_call 22; exact Calls.grown (H.covers _)))) | quiet_step ((first | (go_at_call 15; with_reducible exact Calls.grown (Ha _)) | (go_at_call 15; with_reducible exact Calls.grown (H.hasB _)) | (go_at_call 14; exact Calls.grown (Hh _)) | (go_at_call 23; exact Calls.grown (H.refcovers _)) | (go_at_call 22; exact Calls.grown (H.covers _)))))
          refine wpQuiet_nil ?_
          intro W9 g9
          replace g9 : Gr _ W9 := g9
          replace Pw := Pw.gr g9
          replace Qw := Qw.gr g9
          clear kP kQ kC Cw
          go_wp2
          go_roundw
          case rel => exact ⟨2, by omega, rfl, ((G.trans Gw).trans g8).trans g9, Pw, Qw⟩
          case measure => simp [intOf]
        · simp only [Bool.not_eq_true] at hu
          rw [hu] at Hh Ha
          simp only [Bool.false_and] at Hh
          refine wp_region_quiet_grown (by assumption) (by kernel_rfl) ?_
          repeat (first | go_big_quiet_step ((first | (go_at_call 15; with_reducible exact Calls.grown (Ha _)) | (go_at_call 15; with_reducible exact Calls.grown (H.hasB _)) | (go_at_call 14; exact Calls.grown (Hh _)) | (go_at_call 23; exact Calls.grown (H.refcovers _)) | (go_at_call 22; exact Calls.grown (H.covers _)))) | quiet_step ((first | (go_at_call 15; with_reducible exact Calls.grown (Ha _)) | (go_at_call 15; with_reducible exact Calls.grown (H.hasB _)) | (go_at_call 14; exact Calls.grown (Hh _)) | (go_at_call 23; exact Calls.grown (H.refcovers _)) | (go_at_call 22; exact Calls.grown (H.covers _)))))
          refine wpQuiet_nil ?_
          intro W9 g9
          replace g9 : Gr _ W9 := g9
          replace Pw := Pw.gr g9
          replace Qw := Qw.gr g9
          clear kP kQ kC Cw
          go_wp2
          go_roundw
          case rel => exact ⟨2, by omega, rfl, ((G.trans Gw).trans g8).trans g9, Pw, Qw⟩
          case measure => simp [intOf]
    · have H := h2
      clear h0 h1 h2
      go_upto_region 6 with fail
      go_cut [12] (fun s wx => ∃ bk : Nat, s = .pointer (some ⟨bk, 0, none⟩) ∧ At wx bk #[Value.int .i64 (E0 2), .int .i64 (E1 2), .int .i64 (E2 2), .int .i64 (E3 2)] 23 ∧ Gr wr wx)
      case first =>
        go_region_held3 (fun w' => Gr wr w') ((first | assumption | exact (Gr.refl _).drew | exact Gr.trans (by assumption) gc | exact Gr.alloc (by assumption) _ | exact ((Gr.refl _).alloc _).drew | exact (Gr.trans ((Gr.refl _).drew) gc).alloc _ | (refine Gr.setCell (Gr.setCell (Gr.setCell (Gr.setCell (by assumption) ?_ _) ?_ _) ?_ _) ?_ _ <;> simp)))
          (first | (go_at_call 19; refine (H.cut _).mono ?_; rintro e Wc ⟨rfl, gc⟩; have zA := ((At.new wr _ _).drew).gr gc; have kz := zA.cell; have fz := zA.free) | (go_at_call 19; refine (H.cut _).mono ?_; rintro e Wc ⟨rfl, gc⟩))
        all_goals (go_wp2_with fail; go_meet; first | exact ⟨wr.heap.size, rfl, zA.set4 _ _ _ _, by assumption⟩ | exact ⟨Wc.heap.size, rfl, At.new Wc _ _, by assumption⟩)
      case rest =>
        obtain ⟨bk, rfl, Cw, Gw⟩ := hcut
        replace Pw := Pw.gr Gw
        replace Qw := Qw.gr Gw
        clear lp lq
        have kP := Pw.cells
        have kQ := Qw.cells
        have kC := Cw.cells
        go_wp2
        refine wp_region_quiet_grown (by assumption) (by kernel_rfl) ?_
        repeat (first | go_big_quiet_step ((first | (go_at_call 20; exact Calls.grown (H.ref _)) | (go_at_call 19; exact Calls.grown (H.tuc _)) | (go_at_call 21; exact Calls.grown (H.meets _)) | (go_at_call 13; exact Calls.grown (H.empty _)))) | quiet_step ((first | (go_at_call 20; exact Calls.grown (H.ref _)) | (go_at_call 19; exact Calls.grown (H.tuc _)) | (go_at_call 21; exact Calls.grown (H.meets _)) | (go_at_call 13; exact Calls.grown (H.empty _)))))
        refine wpQuiet_nil ?_
        intro W8 g8
        replace g8 : Gr _ W8 := g8
        replace Pw := Pw.gr g8
        replace Qw := Qw.gr g8
        replace Cw := Cw.gr g8
        clear kP kQ kC
        go_wp2
        have kP := Pw.cells
        have kQ := Qw.cells
        have kC := Cw.cells
        have Hh := H.has
        have Ha := H.hasA
        by_cases hu : U 2 = true
        · rw [hu] at Hh Ha
          simp only [Bool.true_and] at Hh
          refine wp_region_quiet_grown (by assumption) (by kernel_rfl) ?_
          repeat (first | go_big_quiet_step ((first | (go_at_call 15; with_reducible exact Calls.grown (Ha _)) | (go_at_call 15; with_reducible exact Calls.grown (H.hasB _)) | (go_at_call 14; exact Calls.grown (Hh _)) | (go_at_call 23; exact Calls.grown (H.refcovers _)) | (go_at_call 22; exact Calls.grown (H.covers _)))) | quiet_step ((first | (go_at_call 15; with_reducible exact Calls.grown (Ha _)) | (go_at_call 15; with_reducible exact Calls.grown (H.hasB _)) | (go_at_call 14; exact Calls.grown (Hh _)) | (go_at_call 23; exact Calls.grown (H.refcovers _)) | (go_at_call 22; exact Calls.grown (H.covers _)))))
          refine wpQuiet_nil ?_
          intro W9 g9
          replace g9 : Gr _ W9 := g9
          replace Pw := Pw.gr g9
          replace Qw := Qw.gr g9
          clear kP kQ kC Cw
          go_wp2
          go_roundw
          case rel => exact ⟨3, by omega, rfl, ((G.trans Gw).trans g8).trans g9, Pw, Qw⟩
          case measure => simp [intOf]
        · simp only [Bool.not_eq_true] at hu
          rw [hu] at Hh Ha
          simp only [Bool.false_and] at Hh
          refine wp_region_quiet_grown (by assumption) (by kernel_rfl) ?_
          repeat (first | go_big_quiet_step ((first | (go_at_call 15; with_reducible exact Calls.grown (Ha _)) | (go_at_call 15; with_reducible exact Calls.grown (H.hasB _)) | (go_at_call 14; exact Calls.grown (Hh _)) | (go_at_call 23; exact Calls.grown (H.refcovers _)) | (go_at_call 22; exact Calls.grown (H.covers _)))) | quiet_step ((first | (go_at_call 15; with_reducible exact Calls.grown (Ha _)) | (go_at_call 15; with_reducible exact Calls.grown (H.hasB _)) | (go_at_call 14; exact Calls.grown (Hh _)) | (go_at_call 23; exact Calls.grown (H.refcovers _)) | (go_at_call 22; exact Calls.grown (H.covers _)))))
          refine wpQuiet_nil ?_
          intro W9 g9
          replace g9 : Gr _ W9 := g9
          replace Pw := Pw.gr g9
          replace Qw := Qw.gr g9
          clear kP kQ kC Cw
          go_wp2
          go_roundw
          case rel => exact ⟨3, by omega, rfl, ((G.trans Gw).trans g8).trans g9, Pw, Qw⟩
          case measure => simp [intOf]
    · go_wp2_with fail
      refine (L _).mono ?_
      rintro e W9 ⟨rfl, g9⟩
      go_wp2
      go_ret
      exact Rt.bool (by simp) (G.trans g9)

theorem cuts1 (a b c d a' b' c' d' x y : Int) (w : World) (ha : I64 a) (hb : I64 b) (hc : I64 c) (hd : I64 d) (ha' : I64 a') (hb' : I64 b') (hc' : I64 c') (hd' : I64 d') (_ : I64 x) (_ : I64 y) :
    Calls Try.prog 4 #[.agg #[.int .i64 a, .int .i64 b, .int .i64 c, .int .i64 d], .agg #[.int .i64 a', .int .i64 b', .int .i64 c', .int .i64 d'], .int .i64 x, .int .i64 y] w (Rt w (.bool true)) := by
  have G := good1 a b c d
  have S := fun w => small1 a b c d w ha hb hc hd
  have G' := good1 a' b' c' d'
  have S' := fun w => small1 a' b' c' d' w ha' hb' hc' hd'
  generalize goodR a b c d = g at G
  generalize smallR a b c d = s at S
  generalize goodR a' b' c' d' = g' at G'
  generalize smallR a' b' c' d' = s' at S'
  have p0 := pair_of a b c d a' b' c' d' x y
  have p1 := pair_of g.a g.b g.c g.d g'.a g'.b g'.c g'.d x y
  have p2 := pair_of s.a s.b s.c s.d s'.a s'.b s'.c s'.d x y
  let R : Nat → Rc := fun k => if k = 0 then cutR a b c d a' b' c' d' else if k = 1 then cutR g.a g.b g.c g.d g'.a g'.b g'.c g'.d else cutR s.a s.b s.c s.d s'.a s'.b s'.c s'.d
  let M : Nat → Bool := fun k => if k = 0 then meetsB a b c d a' b' c' d' else if k = 1 then meetsB g.a g.b g.c g.d g'.a g'.b g'.c g'.d else meetsB s.a s.b s.c s.d s'.a s'.b s'.c s'.d
  let U : Nat → Bool := fun k => if k = 0 then hasB a b c d x y else if k = 1 then hasB g.a g.b g.c g.d x y else hasB s.a s.b s.c s.d x y
  let V : Nat → Bool := fun k => if k = 0 then hasB a' b' c' d' x y else if k = 1 then hasB g'.a g'.b g'.c g'.d x y else hasB s'.a s'.b s'.c s'.d x y
  let K : Nat → Bool := fun k => if k = 0 then coversB a b c d a' b' c' d' else if k = 1 then coversB g.a g.b g.c g.d g'.a g'.b g'.c g'.d else coversB s.a s.b s.c s.d s'.a s'.b s'.c s'.d
  exact cuts_core a b c d g.a g.b g.c g.d s.a s.b s.c s.d a' b' c' d' g'.a g'.b g'.c g'.d s'.a s'.b s'.c s'.d x y (fun k => (R k).a) (fun k => (R k).b) (fun k => (R k).c) (fun k => (R k).d) M U V K w G S G' S' p0 p1 p2

set_option maxRecDepth 100000 in
theorem rectCuts_lifted (os : Os) (started : os.Started) (H : Type) (enc : TypeId × Value → H) :
    ReturnsInHanded {} Try.checked os 4 .any (Rows.rectCutsSpec.pre6 enc Try.prog Try.f4 Rows.rectCutsRow.domain false) (Rows.rectCutsSpec.post enc Try.prog Try.f4 false true false false) := by
  refine returnsInHanded_of_change (C := Try.checked) own started (by kernel_rfl) Try.func4
    (ChangeSpec.witness6 (enc := enc) (C := Try.checked) false ⟨#[], #[.agg #[.int .i64 0, .int .i64 0, .int .i64 0, .int .i64 0], .agg #[.int .i64 0, .int .i64 0, .int .i64 0, .int .i64 0], .int .i64 0, .int .i64 0], []⟩ 8 (by kernel_rfl) (by kernel_rfl) (by kernel_rfl) (by kernel_rfl)) ?_
  intro W base args ds gs before hval0 hW hcnd _
  have hval : ∀ (j : Nat) t v, Try.f4.params[j]? = some t → args[j]? = some v → Value.okWide Try.prog W .any base t v := hval0
  have hW' := hW
  obtain ⟨p, q, hA0, hV, rfl, hfz, hnd⟩ := hW
  have hA : DataW.TrodAll enc Try.prog W 0 (fun _ => true) true Try.f4.params.toList args.toList ds p := hA0
  rw [Try.params4] at hA hval
  obtain ⟨v0, vs0, d0, ds0, p0, q0, hargs, rfl, rfl, h0, r0⟩ := trodAll_cons hA
  obtain ⟨v1, vs1, d1, ds1, p1, q1, rfl, rfl, rfl, h1, r1⟩ := trodAll_cons r0
  obtain ⟨v2, vs2, d2, ds2, p2, q2, rfl, rfl, rfl, h2, r2⟩ := trodAll_cons r1
  obtain ⟨v3, vs3, d3, ds3, p3, q3, rfl, rfl, rfl, h3, r3⟩ := trodAll_cons r2
  obtain ⟨rfl, rfl, rfl⟩ := trodAll_nil r3
  obtain rfl : args = #[v0, v1, v2, v3] := by cases args; simp_all
  obtain ⟨rfl, rfl⟩ := trodVars_none hV
  obtain ⟨a0, b0, c0, d0, rfl, rfl, rfl, wa0, wb0, wc0, wd0⟩ := open_rect (hval 0 23 v0 rfl rfl) h0
  obtain ⟨a1, b1, c1, d1, rfl, rfl, rfl, wa1, wb1, wc1, wd1⟩ := open_rect (hval 1 23 v1 rfl rfl) h1
  obtain ⟨n2, rfl, rfl, rfl, wn2⟩ := open_int Try.underlying3 (hval 2 3 v2 rfl rfl) h2
  obtain ⟨n3, rfl, rfl, rfl, wn3⟩ := open_int Try.underlying3 (hval 3 3 v3 rfl rfl) h3
  clear hA0 hval0
  simp only [List.append_nil] at hW'
  refine (cuts1 a0 b0 c0 d0 a1 b1 c1 d1 n2 n3 W (I64.of_wf wa0) (I64.of_wf wb0) (I64.of_wf wc0) (I64.of_wf wd0) (I64.of_wf wa1) (I64.of_wf wb1) (I64.of_wf wc1) (I64.of_wf wd1) (I64.of_wf wn2) (I64.of_wf wn3)).mono fun e W' ⟨he, hg⟩ => ?_
  subst he
  exact ⟨_, rfl, close_below (pa := []) (pv := []) hW' (fun _ _ _ => (trodAll_cons_mk (shut_bool Try.underlying4 _) trodAll_mk0)) (fun sp _ => (trodAll_cons_mk (shut_rect wa0 wb0 wc0 wd0) (trodAll_cons_mk (shut_rect wa1 wb1 wc1 wd1) (trodAll_cons_mk (shut_int Try.underlying3 wn2) (trodAll_cons_mk (shut_int Try.underlying3 wn3) trodAll_mk0))))) (fun _ _ => rfl) rfl
    hg.below (ok_one (by kernel_rfl) rfl (okWide_bool_mk Try.underlying4 _))⟩

theorem rectCuts_holds : Rows.RectCutsSaid :=
  OpenClaim.holds_of_wide 4 Try.f4 rfl rfl rfl rfl rfl rfl rfl ⟨rfl, rfl, rfl, rfl, rfl⟩ rfl rfl rfl rfl rfl (by kernel_rfl) Try.func4 (by kernel_rfl)
    (of_decide_eq_true (by kernel_rfl)) (by unfold Func.isWrapper; first | (rw [if_pos (by decide +kernel)]; kernel_rfl) | (rw [if_neg (by decide +kernel)]; exact ⟨rfl, rfl⟩))
    (fun os started H enc _ => rectCuts_lifted os started H enc)

#print axioms rectCuts_holds

end Go.Proofs.Ytdijfbmccnficaa
