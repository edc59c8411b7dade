/-
  What is proved: plain facts on what is drawn by parts. No conditions but bounds. plain facts on what is drawn by a layer that is solid and covers all. No conditions but bounds. plain facts: a rectangle filled is its points drawn, one by one. No conditions but bounds. what Clear of package paint does. No conditions but bounds. plain facts: what Draw and Clear leave is what the document's leave. No conditions but bounds. what both Draws and both Clears leave and tell, in the same words. No conditions but bounds. two images drawn from a layer and from the same layer with its own places cleared differ only where Place says so. No conditions. what the document's Place and Solid hand back. No conditions but bounds. what Place says of two images drawn from a layer and from its cleared copy. No conditions. nothing; it says the code that stands behind a region of a function. No conditions. the closed facts of a row, joined. No conditions but they.
-/
import Derived.Test.YtablogiielclaaaGreatZz16
import Derived.Test.YtablogiielclaaaGreatZz11
import Derived.Test.YtablogiielclaaaGreatZz10
import Derived.Test.YtablogiielclaaaGreatZz14
import Derived.Test.YtablogiielclaaaGreatZz8
import Derived.Test.YtablogiielclaaaGreatZz1
import Derived.JoinedOf
namespace Go.Proofs.YtablogiielclaaaGreat
open Go.RowKit Go.Sort

theorem near_len5 {R : List Rc} (h : IsReg R) (hi : InR near near R) : R.length ≤ 1296 := by
  obtain ⟨gb, eb⟩ := h.bands
  have h1 := rects_len gb.toWk (InR.bands gb (by rw [eb]; exact hi))
  rw [eb] at h1
  exact Nat.le_trans h1 (by simp [near])
theorem lyF_c32 (W H : Nat) (M : List Int) (s ax ay al : Int) (p : Int × Int) (q : Int) : C32 (lyF W H M s ax ay al p q) := ov_c32 _ _
theorem drawP_may (W : Nat) {f : Int × Int → Int → Int} (h1 : ∀ p q, C32 (f p q)) (h2 : ∀ p q, mayC q = true → mayC (f p q) = true) : ∀ (ps : List (Int × Int)) (L : List Int), MayL L → MayL (drawP W f L ps)
  | [], _, h => h
  | p :: ps, L, h => by
    show MayL (drawP W f (L.set _ _) ps)
    refine drawP_may W h1 h2 ps _ (mayL_set h (h1 _ _) (h2 _ _ ?_))
    rw [List.getD_eq_getElem?_getD]
    cases hq : L[ixP W p]? with
    | none => decide
    | some c => exact (h c (List.mem_of_getElem? hq)).2
/-- Points that are the same, but for their order, are drawn the same. -/
theorem drawP_perm {W H : Nat} (f : Int × Int → Int → Int) {ps qs : List (Int × Int)} (hp : ps.Perm qs) (hi : ∀ p ∈ ps, InP W H p) (L : List Int) : drawP W f L ps = drawP W f L qs := by
  refine List.Perm.foldl_eq' hp (fun p hp q hq M => ?_) L
  by_cases e : p = q
  · rw [e]
  · have hne : ixP W p ≠ ixP W q := fun h => e (ixP_inj (hi p hp) (hi q hq) h)
    simp only [List.getD_eq_getElem?_getD, List.getElem?_set_ne hne, List.getElem?_set_ne (Ne.symm hne)]
    exact (List.set_comm _ _ hne)
theorem drawP_app (W : Nat) (f : Int × Int → Int → Int) (ps qs : List (Int × Int)) (L : List Int) : drawP W f L (ps ++ qs) = drawP W f (drawP W f L ps) qs := by simp [drawP]
/-- What is drawn by two parts without a point in common. -/
theorem parts_of {W H : Nat} {S : Rc} (hS : ∀ x y, hasB S.a S.b S.c S.d x y = true → InP W H (x, y)) (f : Int × Int → Int → Int) (L : List Int) {a b u d R1 R2 R3 : List Rc}
    (hu : ∀ x y, hasL u x y = (hasL a x y || hasL b x y)) (hd : ∀ x y, hasL d x y = (hasL b x y && !hasL a x y))
    (h1 : OfQ g256 g256 (cutL S u) R1) (h2 : OfQ g256 g256 (cutL S a) R2) (h3 : OfQ g256 g256 (cutL S d) R3) :
    drawP W f L (ptsL R1) = drawP W f (drawP W f L (ptsL R2)) (ptsL R3) ∧ (ptsL R1).length = (ptsL R2).length + (ptsL R3).length := by
  have hn : (ptsL R2 ++ ptsL R3).Nodup := by
    rw [List.nodup_append]
    refine ⟨reg_nodup h2.reg, reg_nodup h3.reg, ?_⟩
    intro p hp q hq e
    subst e
    rw [ptsL_mem, h2.has, cutL_has] at hp
    rw [ptsL_mem, h3.has, cutL_has, hd] at hq
    simp at hp hq
    rw [hp.2] at hq
    simp at hq
  have hp : (ptsL R1).Perm (ptsL R2 ++ ptsL R3) := (List.perm_ext_iff_of_nodup (reg_nodup h1.reg) hn).2 fun p => by
    rw [List.mem_append, ptsL_mem, ptsL_mem, ptsL_mem, h1.has, h2.has, h3.has, cutL_has, cutL_has, cutL_has, hu, hd]
    cases hasB S.a S.b S.c S.d p.1 p.2 <;> cases hasL a p.1 p.2 <;> cases hasL b p.1 p.2 <;> simp
  refine ⟨?_, by rw [hp.length_eq, List.length_append]⟩
  rw [drawP_perm (H := H) f hp (fun p hp => by
    rw [ptsL_mem, h1.has, cutL_has] at hp
    exact hS p.1 p.2 (Bool.and_eq_true_iff.1 hp).1) L, drawP_app]
theorem OwR.by5 {w w' : World} {B k : Nat} {A : Option Addr} {c : Nat} {L : List Rc} (h : OwR w B A c L) (g : w.grownBy w' (some k)) (hk : k < B) : OwR w' B A c L :=
  h.grown g (by
    rcases h.lies with rfl | ⟨q, rfl, h1, _⟩
    · exact .inl rfl
    · exact .inr (by simp; omega))
theorem add_len {a b c : Nat} (h : a = b + c) (ha : a ≤ 100000) : wrap64 ((b : Int) + (c : Int)) = (a : Int) ∧ IntKind.i64.wrap ((b : Int) + (c : Int)) = (a : Int) := by
  constructor
  · rw [w64i (by omega) (by omega)]; omega
  · rw [IntWalk.i64_in _ (by omega)]; omega
theorem pts_in {W H : Nat} {S : Rc} (hS : ∀ x y, hasB S.a S.b S.c S.d x y = true → InP W H (x, y)) {a R : List Rc} (h : OfQ g256 g256 (cutL S a) R) (hW : 1 ≤ W) (hw : W ≤ 256) (hh : H ≤ 256) : (ptsL R).length ≤ 100000 :=
  pts_len hW hw hh (reg_nodup h.reg) (fun p hp => by
    rw [ptsL_mem, h.has, cutL_has] at hp
    exact hS p.1 p.2 (Bool.and_eq_true_iff.1 hp).1)
theorem lyCut_in (cp : Rc) (W2 H2 : Nat) {s : Int} (ax ay : Int) (W H : Nat) (hs : 1 ≤ s) (x y : Int) (h : hasB (lyCut cp W2 H2 s ax ay W H).a (lyCut cp W2 H2 s ax ay W H).b (lyCut cp W2 H2 s ax ay W H).c (lyCut cp W2 H2 s ax ay W H).d x y = true) : InP W H (x, y) := by
  rw [lyCut_has _ _ _ _ _ _ _ hs] at h
  have h2 := of_decide_eq_true (show decide (0 ≤ x ∧ x < (W : Int) ∧ 0 ≤ y ∧ y < (H : Int)) = true from (Bool.and_eq_true_iff.1 h).2)
  exact ⟨h2.1, h2.2.1, h2.2.2.1, h2.2.2.2⟩

end Go.Proofs.YtablogiielclaaaGreat
namespace Go.Proofs.YtablogiielclaaaGreat
open Go.RowKit Go.Sort

theorem fill_allP {W H : Nat} {q : Int} {L : List Int} (hl : L.length = W * H) (h1 : 1 ≤ W) : fillR W 0 W q L (List.range' 0 (H - 0)) = List.replicate (W * H) q := by
  apply List.ext_getElem?
  intro i
  rw [fillR_get W 0 W q (Nat.zero_le _) (Nat.le_refl _) h1, List.getElem?_replicate]
  by_cases h : i < W * H
  · rw [if_pos h, if_pos ⟨by omega, Nat.zero_le _, Nat.mod_lt _ h1, by rw [List.mem_range'_1]; have := Nat.div_lt_of_lt_mul h; generalize i / W = z at *; omega⟩]
  · rw [if_neg h, if_neg (fun hh => h (by rw [← hl]; exact hh.1)), List.getElem?_eq_none (by omega)]
theorem solid_all {W H : Nat} {r g b : Int} {L : List Int} {R : List Rc} (hW : 1 ≤ W) (hL : L.length = W * H) (hr : By r) (hg : By g) (hb : By b)
    (hQ : OfQ g256 g256 (cutL (lyCut ⟨0, 0, W, H⟩ W H 1 0 0 W H) [⟨0, 0, W, H⟩]) R) :
    drawP W (lyF W H (List.replicate (W * H) (mk 255 r g b)) 1 0 0 255) L (ptsL R) = List.replicate (W * H) (mk 255 r g b) := by
  apply List.ext_getElem?
  intro k
  have hi : ∀ p ∈ ptsL R, InP W H p := fun p hp => by
    rw [ptsL_mem, hQ.has, cutL_has] at hp
    exact lyCut_in _ _ _ _ _ _ _ (by omega) p.1 p.2 (Bool.and_eq_true_iff.1 hp).1
  by_cases h : k < W * H
  · obtain ⟨d1, d2, d3⟩ := div_of (k := k) (H := H) hW h
    generalize k % W = i at *
    generalize k / W = j at *
    have hp : InP W H ((i : Int), (j : Int)) := ⟨by omega, by omega, by omega, by omega⟩
    have hm : ((i : Int), (j : Int)) ∈ ptsL R := by
      rw [ptsL_mem, hQ.has, cutL_has, lyCut_has _ _ _ _ _ _ _ (by omega)]
      simp only [lyHas, hasL, List.any_cons, List.any_nil, Int.sub_zero, Int.ediv_one, Bool.or_false]
      have h1 : hasB 0 0 W H (i : Int) (j : Int) = true := by unfold hasB; exact decide_eq_true (by omega)
      simp only [h1, Bool.and_self]
    have hg1 := drawP_get W H (lyF W H (List.replicate (W * H) (mk 255 r g b)) 1 0 0 255) (ptsL R) L hi (reg_nodup hQ.reg) _ hp
    rw [ixP_nat, d3, if_pos hm] at hg1
    have ha := atV_nat (L := List.replicate (W * H) (mk 255 r g b)) (by simp) d1 d2
    rw [d3, List.getElem?_replicate, if_pos h] at ha
    injection ha with ha
    have hf : ∀ q, lyF W H (List.replicate (W * H) (mk 255 r g b)) 1 0 0 255 ((i : Int), (j : Int)) q = mk 255 r g b := fun q => by
      unfold lyF
      simp only [Int.sub_zero, Int.ediv_one]
      rw [← ha, fd_all (mk_c32 _ _ _ _), ov_solid q hr hg hb]
    rw [hg1, List.getElem?_replicate, if_pos h, List.getElem?_eq_getElem (by omega), Option.map_some, hf]
  · rw [List.getElem?_eq_none (by rw [drawP_len]; omega), List.getElem?_eq_none (by simp; omega)]
theorem cut_whole {W H : Nat} (hW : 1 ≤ W) (hH : 1 ≤ H) : cutR 0 0 W H 0 0 W H = ⟨((0 : Nat) : Int), ((0 : Nat) : Int), (W : Int), (H : Int)⟩ := by
  unfold cutR emptyB
  rw [if_neg (by simp; omega)]
  simp
theorem whole_ly {W H : Nat} (hW : 1 ≤ W) (hw : W ≤ 256) (hH : 1 ≤ H) (hh : H ≤ 256) : lyMay W H 1 255 0 0 = true := by
  unfold lyMay inB
  simp only [decide_eq_true_eq]
  omega
theorem solid_may {r g b : Int} {k : Nat} : MayL (List.replicate k (mk 255 r g b)) := fun c hc => by
  rw [(List.mem_replicate.1 hc).2]
  refine ⟨mk_c32 _ _ _ _, ?_⟩
  rw [may_mk]
  have h : ∀ x, cl x ≤ cl 255 := fun x => by unfold cl; omega
  exact decide_eq_true ⟨h r, h g, h b⟩

end Go.Proofs.YtablogiielclaaaGreat
namespace Go.Proofs.YtablogiielclaaaGreat
open Go.RowKit Go.Sort

theorem inp_nat {W H i j : Nat} (h1 : i < W) (h2 : j < H) : InP W H ((i : Int), (j : Int)) := ⟨by omega, by omega, by omega, by omega⟩
/-- A rectangle of an image, filled, is drawn point by point. -/
theorem fill_draw {W H : Nat} {q : Int} {L : List Int} (hl : L.length = W * H) (h1 : 1 ≤ W) {x0 y0 x1 y1 : Nat} (hx : x0 ≤ x1) (hw : x1 ≤ W) (hy : y0 ≤ y1) (hh : y1 ≤ H) :
    fillR W x0 x1 q L (List.range' y0 (y1 - y0)) = drawP W (fun _ _ => q) L (rectP x0 y0 (x1 - x0) (y1 - y0)) := by
  apply List.ext_getElem?
  intro k
  have hi : ∀ p ∈ rectP (x0 : Int) (y0 : Int) (x1 - x0) (y1 - y0), InP W H p := fun p hp => by
    rw [rectP_mem] at hp
    unfold InP
    omega
  rw [fillR_get W x0 x1 q hx hw h1]
  by_cases h : k < W * H
  · obtain ⟨d1, d2, d3⟩ := div_of (k := k) (H := H) h1 h
    have hg := drawP_get W H (fun _ _ => q) (rectP (x0 : Int) (y0 : Int) (x1 - x0) (y1 - y0)) L hi (rectP_nodup _ _ _ _) (((k % W : Nat) : Int), ((k / W : Nat) : Int)) (inp_nat d1 d2)
    rw [ixP_nat, d3] at hg
    rw [hg]
    have hk : k < L.length := by omega
    generalize k % W = i at *
    generalize k / W = j at *
    rw [List.getElem?_eq_getElem hk, Option.map_some]
    have e : (k < L.length ∧ x0 ≤ i ∧ i < x1 ∧ j ∈ List.range' y0 (y1 - y0)) ↔ ((i : Int), (j : Int)) ∈ rectP (x0 : Int) (y0 : Int) (x1 - x0) (y1 - y0) := by
      rw [rectP_mem, List.mem_range'_1]
      dsimp only
      omega
    by_cases hm : ((i : Int), (j : Int)) ∈ rectP (x0 : Int) (y0 : Int) (x1 - x0) (y1 - y0)
    · rw [if_pos hm, if_pos (e.2 hm)]
    · rw [if_neg hm, if_neg (fun h => hm (e.1 h))]
  · rw [if_neg (fun hh => h (by rw [← hl]; exact hh.1)), List.getElem?_eq_none (by omega), List.getElem?_eq_none (by rw [drawP_len]; omega)]
theorem rectP_area {x0 y0 x1 y1 : Nat} (hx : x0 ≤ x1) (hy : y0 ≤ y1) : areaI x0 y0 x1 y1 = ((rectP (x0 : Int) (y0 : Int) (x1 - x0) (y1 - y0)).length : Nat) := by
  rw [rectP_len]
  unfold areaI
  rw [Int.natCast_mul, Int.mul_comm, Int.natCast_sub hx, Int.natCast_sub hy]
theorem ptsL_take (R : List Rc) (k : Nat) : (ptsL (R.take k)).length ≤ (ptsL R).length := by
  have h : ptsL R = ptsL (R.take k) ++ ptsL (R.drop k) := by
    unfold ptsL
    rw [← List.flatMap_append, List.take_append_drop]
  rw [h, List.length_append]
  omega
/-- What Fill makes of a rectangle whose points are all the image's. -/
theorem cut_draw {W H : Nat} {q : Int} {L : List Int} (hl : L.length = W * H) (h1 : 1 ≤ W) {r : Rc} (hin : ∀ x y, hasB r.a r.b r.c r.d x y = true → InP W H (x, y)) {x0 y0 x1 y1 : Nat} (hcut : cutR r.a r.b r.c r.d 0 0 W H = ⟨x0, y0, x1, y1⟩)
    (hx : x0 ≤ x1) (hw : x1 ≤ W) (hy : y0 ≤ y1) (hh : y1 ≤ H) :
    fillR W x0 x1 q L (List.range' y0 (y1 - y0)) = drawP W (fun _ _ => q) L (rectP r.a r.b (nX r) (nY r)) ∧ areaI x0 y0 x1 y1 = ((rectP r.a r.b (nX r) (nY r)).length : Nat) := by
  have hmr : ∀ p, p ∈ rectP r.a r.b (nX r) (nY r) ↔ hasB r.a r.b r.c r.d p.1 p.2 = true := fun p => by
    rw [rectP_mem]
    unfold hasB nX nY
    simp only [decide_eq_true_eq]
    omega
  have hp : (rectP r.a r.b (nX r) (nY r)).Perm (rectP (x0 : Int) (y0 : Int) (x1 - x0) (y1 - y0)) := (List.perm_ext_iff_of_nodup (rectP_nodup _ _ _ _) (rectP_nodup _ _ _ _)).2 fun p => by
    rw [hmr]
    have h2 := cutR_has r.a r.b r.c r.d 0 0 W H p.1 p.2
    rw [hcut] at h2
    dsimp only at h2
    have h3 : p ∈ rectP (x0 : Int) (y0 : Int) (x1 - x0) (y1 - y0) ↔ hasB x0 y0 x1 y1 p.1 p.2 = true := by
      rw [rectP_mem]
      unfold hasB
      simp only [decide_eq_true_eq]
      omega
    rw [h3, h2]
    constructor
    · intro h
      obtain ⟨k1, k2, k3, k4⟩ := hin p.1 p.2 h
      rw [h]
      unfold hasB
      simp only [Bool.true_and, decide_eq_true_eq]
      exact ⟨k1, k2, k3, k4⟩
    · intro h
      exact (Bool.and_eq_true_iff.1 h).1
  refine ⟨?_, by rw [rectP_area hx hy, hp.length_eq]⟩
  rw [fill_draw hl h1 hx hw hy hh]
  exact (drawP_perm (W := W) (H := H) (fun _ _ => q) hp (fun p hp => hin p.1 p.2 ((hmr p).1 hp)) L).symm

end Go.Proofs.YtablogiielclaaaGreat
namespace Go.Proofs.YtablogiielclaaaGreat
open Go.RowKit Go.Sort Go.Shelf

set_option maxRecDepth 100000 in
set_option maxHeartbeats 4000000 in
theorem pclear1 {pm pc W H : Nat} {L : List Int} (q : Int) (A0 : Option Addr) (k0 : Nat) (R0 : List Rc) (w : World) (hq : C32 q) (hm : mayC q = true) (hI : Img w pm pc W H L) (hA : Rs w A0 R0) (hR0 : R0.length ≤ 1000000) :
    Calls Tryz.prog 61 #[.pointer (some ⟨pm, 0, none⟩), .slice A0 R0.length k0, .int .u32 q] w
      (fun e w' => ∃ R, OfQ g256 g256 (cutL ⟨0, 0, W, H⟩ R0) R ∧ e = .returned (.int .i64 ((ptsL R).length : Nat)) ∧ w.grownBy w' (some pc) ∧ Img w' pm pc W H (drawP W (fun _ _ => q) L (ptsL R))) := by
  have w2 := hI.w2
  have h2 := hI.h2
  have cW := fun (w' : World) (g : Bl w w') => within1 ⟨0, 0, W, H⟩ ⟨by simp, by simp; omega, by simp, by simp; omega⟩ A0 k0 R0 w' hR0 (hA.bl g)
  generalize R0.length = l0 at *
  go_enter Tryz.func61, Tryz.ntmps61
  go_wp2_with fail
  refine (box1 _ hI).mono ?_
  rintro e v1 ⟨rfl, g1⟩
  go_wp2_with fail
  refine (cW _ g1.bl).mono ?_
  rintro e v2 ⟨A, c, R, rfl, hc2, own, hQ, g2⟩
  have hN : R.length ≤ 100000000 := Nat.le_trans (reg_len hQ.reg hQ.inr grid256) (by decide)
  have I2 := hI.bl (g1.bl.trans g2)
  have G2 := (g1.bl.trans g2).byr (some pc)
  have hpc := hI.cs.lt
  have hpm := hI.hd.lt
  have hne := hI.ne
  have h1s := g1.size
  have hin : ∀ x y, hasL R x y = true → InP W H (x, y) := fun x y h => by
    rw [hQ.has, cutL_has] at h
    have h3 := of_decide_eq_true (show decide (0 ≤ x ∧ x < (W : Int) ∧ 0 ≤ y ∧ y < (H : Int)) = true from (Bool.and_eq_true_iff.1 h).1)
    exact ⟨h3.1, h3.2.1, h3.2.2.1, h3.2.2.2⟩
  have hpt : (ptsL R).length ≤ 100000 := pts_len hI.w1 hI.w2 hI.h2 (reg_nodup hQ.reg) (fun p hp => hin p.1 p.2 (ptsL_mem.1 hp))
  have hw1 := hI.w1
  have hLl := hI.len
  replace hQ := Lib.hid hQ
  replace hin := Lib.hid hin
  replace hLl := Lib.hid hLl
  have hv1 : w.heap.size ≤ v1.heap.size := g1.size
  clear cW hA hR0 hI g1 g2 h1s
  go_wp2_with fail
  go_loopw [7, 15] (fun n i wr => ∃ k : Nat, k ≤ R.length ∧ i = .int .i64 k ∧ n = .int .i64 ((ptsL (R.take k)).length : Nat) ∧ Img wr pm pc W H (drawP W (fun _ _ => q) L (ptsL (R.take k))) ∧ OwR wr v1.heap.size A c R ∧ w.grownBy wr (some pc)) (fun _ i _ => R.length - (intOf i).toNat)
  case atStart => exact ⟨0, Nat.zero_le _, rfl, rfl, I2, own, G2⟩
  case round =>
    obtain ⟨k, hk, rfl, rfl, Ik, ow, Gk⟩ := hrel
    by_cases hlt : k < R.length
    · obtain ⟨r, hr⟩ := list_at hlt
      obtain ⟨b, off, rfl, hrow⟩ := ow.rs.opened (by omega)
      obtain ⟨e1, e2, e3, e4⟩ := hrow k r hr
      obtain ⟨x0, y0, x1, y1, hcut, b1, b2, b3, b4, b5, _⟩ := cut_nat r.a r.b r.c r.d W H
      have hrin : ∀ x y, hasB r.a r.b r.c r.d x y = true → InP W H (x, y) := fun x y h => hin.out x y (by unfold hasL; exact List.any_eq_true.2 ⟨r, List.mem_of_getElem? hr, h⟩)
      have hdl := (drawP_len W (fun _ _ => q) (ptsL (R.take k)) L).trans hLl.out
      obtain ⟨hf, ha⟩ := cut_draw (q := q) hdl hw1 hrin hcut b1 b3 b4 b5
      rw [← drawP_app, ← ptsL_succ hr] at hf
      have hlen : (ptsL (R.take (k + 1))).length = (ptsL (R.take k)).length + (rectP r.a r.b (nX r) (nY r)).length := by rw [ptsL_succ hr, List.length_append]
      have hle := ptsL_take R (k + 1)
      obtain ⟨a1, a2⟩ := add_len hlen (by omega)
      rw [← ha] at a1 a2
      have cF := fun (w' : World) (g : Gr wr w') => fill1 w' (Ik.gr g) r.a r.b r.c r.d q hq hm x0 x1 y0 y1 hcut b1 b2 b3 b4 b5
      rw [hf] at cF
      have hlen' := Lib.hid hlen
      clear hf hlen hle ha hcut hrin hdl hr hrow
      generalize areaI x0 y0 x1 y1 = ar at *
      generalize (ptsL (R.take k)).length = m0 at *
      obtain ⟨ra, rb, rc, rd⟩ := r
      dsimp only at *
      go_wp2_with fail
      refine (cF _ ((Gr.refl wr).alloc _)).mono ?_
      rintro e w3 ⟨rfl, b6, I6⟩
      have G6 := by_trans (by_gr Gk ((Gr.refl wr).alloc (.cells #[.int .i64 ra, .int .i64 rb, .int .i64 rc, .int .i64 rd] 31))) b6
      have O6 := (ow.bl ((Bl.refl wr).alloc (.cells #[.int .i64 ra, .int .i64 rb, .int .i64 rc, .int .i64 rd] 31))).by5 b6 (by omega)
      go_wp2
      go_roundw
      case rel => exact ⟨k + 1, by omega, by simp, rfl, I6, O6, G6⟩
      case measure => simp [intOf]; omega
    · obtain rfl : k = R.length := by omega
      rw [List.take_length] at Ik ⊢
      go_wp2
      go_ret
      exact ⟨R, hQ.out, rfl, Gk, Ik⟩

set_option maxRecDepth 100000 in
set_option maxHeartbeats 4000000 in
theorem pclear0 {pm pc W H : Nat} {L : List Int} (q : Int) (A0 : Option Addr) (k0 : Nat) (R0 : List Rc) (w : World) (hq : C32 q) (hm : mayC q = false) (hI : Img w pm pc W H L) (hA : Rs w A0 R0) (hR0 : R0.length ≤ 1000000) :
    Calls Tryz.prog 61 #[.pointer (some ⟨pm, 0, none⟩), .slice A0 R0.length k0, .int .u32 q] w
      (fun e w' => e = .returned (.int .i64 0) ∧ Bl w w') := by
  have w2 := hI.w2
  have h2 := hI.h2
  have cW := fun (w' : World) (g : Bl w w') => within1 ⟨0, 0, W, H⟩ ⟨by simp, by simp; omega, by simp, by simp; omega⟩ A0 k0 R0 w' hR0 (hA.bl g)
  generalize R0.length = l0 at *
  go_enter Tryz.func61, Tryz.ntmps61
  go_wp2_with fail
  refine (box1 _ hI).mono ?_
  rintro e v1 ⟨rfl, g1⟩
  go_wp2_with fail
  refine (cW _ g1.bl).mono ?_
  rintro e v2 ⟨A, c, R, rfl, hc2, own, hQ, g2⟩
  have hN : R.length ≤ 100000000 := Nat.le_trans (reg_len hQ.reg hQ.inr grid256) (by decide)
  have G2 := g1.bl.trans g2
  clear hQ cW hA hR0 g1 g2 w2 h2 hI
  go_wp2_with fail
  go_loopw [7, 15] (fun n i wr => ∃ k : Nat, k ≤ R.length ∧ i = .int .i64 k ∧ n = .int .i64 0 ∧ OwR wr v1.heap.size A c R ∧ Bl w wr) (fun _ i _ => R.length - (intOf i).toNat)
  case atStart => exact ⟨0, Nat.zero_le _, rfl, rfl, own, G2⟩
  case round =>
    obtain ⟨k, hk, rfl, rfl, ow, Gk⟩ := hrel
    by_cases hlt : k < R.length
    · obtain ⟨r, hr⟩ := list_at hlt
      obtain ⟨b, off, rfl, hrow⟩ := ow.rs.opened (by omega)
      obtain ⟨e1, e2, e3, e4⟩ := hrow k r hr
      have cF := fun (w' : World) => fill0 pm w' r.a r.b r.c r.d q hq hm
      clear hr hrow
      obtain ⟨ra, rb, rc, rd⟩ := r
      dsimp only at *
      go_wp2_with fail
      refine (cF _).mono ?_
      rintro e w3 ⟨rfl, g6⟩
      have G6 := (Gk.alloc (.cells #[.int .i64 ra, .int .i64 rb, .int .i64 rc, .int .i64 rd] 31)).gr g6
      have O6 := ow.bl (((Bl.refl wr).alloc (.cells #[.int .i64 ra, .int .i64 rb, .int .i64 rc, .int .i64 rd] 31)).gr g6)
      go_wp2
      go_roundw
      case rel => exact ⟨k + 1, by omega, by simp, rfl, O6, G6⟩
      case measure => simp [intOf]; omega
    · obtain rfl : k = R.length := by omega
      go_wp2
      go_ret
      exact ⟨rfl, Gk⟩

end Go.Proofs.YtablogiielclaaaGreat
namespace Go.Proofs.YtablogiielclaaaGreat
open Go.RowKit Go.Sort

theorem upto_congr {f g : Nat → Int} {n : Nat} (h : ∀ k, k < n → f k = g k) : upto f n = upto g n := by
  unfold upto
  exact List.map_congr_left fun k hk => h k (List.mem_range.1 hk)
theorem draws_eq {W H : Nat} (hW : 1 ≤ W) {L : List Int} (hl : L.length = W * H) {cp : Rc} {W2 H2 : Nat} {M : List Int} {s ax ay al : Int} (hs : 1 ≤ s) {LW R : List Rc} (hQ : OfQ g256 g256 (cutL (lyCut cp W2 H2 s ax ay W H) LW) R) :
    drawP W (lyF W2 H2 M s ax ay al) L (ptsL R) = upto (fun i => if (lyHas cp W2 H2 s ax ay (i % W : Nat) (i / W : Nat) && hasL LW (i % W : Nat) (i / W : Nat)) then ov (lyCol cp W2 H2 M s ax ay al (i % W : Nat) (i / W : Nat)) (L.getD i 0) else L.getD i 0) L.length ∧
      (ptsL R).length = cntI (fun i => (lyHas cp W2 H2 s ax ay (i % W : Nat) (i / W : Nat) && hasL LW (i % W : Nat) (i / W : Nat))) L.length := by
  have hi : ∀ p ∈ ptsL R, InP W H p := fun p hp => by
    rw [ptsL_mem, hQ.has, cutL_has] at hp
    exact lyCut_in _ _ _ _ _ _ _ hs p.1 p.2 (Bool.and_eq_true_iff.1 hp).1
  have hP : ∀ i j : Nat, i < W → j < H → (((i : Int), (j : Int)) ∈ ptsL R ↔ (fun i j : Nat => lyHas cp W2 H2 s ax ay i j && hasL LW i j) i j = true) := fun i j h1 h2 => by
    rw [ptsL_mem, hQ.has, cutL_has, lyCut_has _ _ _ _ _ _ _ hs]
    have hb : hasB 0 0 W H (i : Int) (j : Int) = true := by unfold hasB; exact decide_eq_true (by omega)
    rw [hb, Bool.and_true]
  refine ⟨?_, by rw [pts_count hW (reg_nodup hQ.reg) hi _ hP, hl]⟩
  rw [drawP_upto hW hl (reg_nodup hQ.reg) hi (lyF W2 H2 M s ax ay al) _ hP]
  refine upto_congr fun k _ => ?_
  cases h : lyHas cp W2 H2 s ax ay (k % W : Nat) (k / W : Nat)
  · simp
  · cases h2 : hasL LW (k % W : Nat) (k / W : Nat)
    · simp
    · simp only [Bool.and_self, if_true]
      unfold lyF lyCol
      rw [if_pos h]
theorem clears_eq {W H : Nat} (hW : 1 ≤ W) {L : List Int} (hl : L.length = W * H) {q : Int} {LW R : List Rc} (hQ : OfQ g256 g256 (cutL ⟨0, 0, W, H⟩ LW) R) :
    drawP W (fun _ _ => q) L (ptsL R) = upto (fun i => if hasL LW (i % W : Nat) (i / W : Nat) then q else L.getD i 0) L.length ∧ (ptsL R).length = cntI (fun i => hasL LW (i % W : Nat) (i / W : Nat)) L.length := by
  have hi : ∀ p ∈ ptsL R, InP W H p := fun p hp => by
    rw [ptsL_mem, hQ.has, cutL_has] at hp
    have h3 := of_decide_eq_true (show decide (0 ≤ p.1 ∧ p.1 < (W : Int) ∧ 0 ≤ p.2 ∧ p.2 < (H : Int)) = true from (Bool.and_eq_true_iff.1 hp).1)
    exact ⟨h3.1, h3.2.1, h3.2.2.1, h3.2.2.2⟩
  have hP : ∀ i j : Nat, i < W → j < H → (((i : Int), (j : Int)) ∈ ptsL R ↔ (fun i j : Nat => hasL LW i j) i j = true) := fun i j h1 h2 => by
    rw [ptsL_mem, hQ.has, cutL_has]
    have hb : hasB (0 : Int) 0 W H (i : Int) (j : Int) = true := by unfold hasB; exact decide_eq_true (by omega)
    dsimp only
    rw [hb, Bool.true_and]
  exact ⟨drawP_upto hW hl (reg_nodup hQ.reg) hi (fun _ _ => q) _ hP, by rw [pts_count hW (reg_nodup hQ.reg) hi _ hP, hl]⟩
theorem upto_self (L : List Int) : upto (fun i => L.getD i 0) L.length = L := by
  apply List.ext_getElem?
  intro k
  rw [upto_get]
  by_cases h : k < L.length
  · rw [if_pos h, List.getD, List.getElem?_eq_getElem h]; rfl
  · rw [if_neg h, List.getElem?_eq_none (by omega)]

end Go.Proofs.YtablogiielclaaaGreat
namespace Go.Proofs.YtablogiielclaaaGreat
open Go.RowKit Go.Sort Go.Shelf

theorem far_16 {a : Int} (h : -6 ≤ a ∧ a ≤ 17) : Far a := by unfold Far; omega
theorem RowN.lt {k : IntKind} {w : World} {b off : Nat} {L : List Int} (h : RowN k w b off L) (hn : 0 < L.length) : b < w.heap.size := by
  obtain ⟨x, hx⟩ := list_at hn
  exact World.block_lt_of_cell? _ _ (h 0 x hx)
def drL (cp : Rc) (W2 H2 : Nat) (M : List Int) (s ax ay al : Int) (W : Nat) (L : List Int) (LW : List Rc) : List Int := upto (fun i => if (lyHas cp W2 H2 s ax ay (i % W : Nat) (i / W : Nat) && hasL LW (i % W : Nat) (i / W : Nat)) then ov (lyCol cp W2 H2 M s ax ay al (i % W : Nat) (i / W : Nat)) (L.getD i 0) else L.getD i 0) L.length
def drN (cp : Rc) (W2 H2 : Nat) (s ax ay : Int) (W : Nat) (L : List Int) (LW : List Rc) : Nat := cntI (fun i => (lyHas cp W2 H2 s ax ay (i % W : Nat) (i / W : Nat) && hasL LW (i % W : Nat) (i / W : Nat))) L.length
def clL (q : Int) (W : Nat) (L : List Int) (LW : List Rc) : List Int := if mayC q = true then upto (fun i => if hasL LW (i % W : Nat) (i / W : Nat) then q else L.getD i 0) L.length else L
def clNP (q : Int) (W : Nat) (L : List Int) (LW : List Rc) : Nat := if mayC q = true then cntI (fun i => hasL LW (i % W : Nat) (i / W : Nat)) L.length else 0
theorem drL_len (cp : Rc) (W2 H2 : Nat) (M : List Int) (s ax ay al : Int) (W : Nat) (L : List Int) (LW : List Rc) : (drL cp W2 H2 M s ax ay al W L LW).length = L.length := by unfold drL; rw [upto_len]
theorem clL_len (q : Int) (W : Nat) (L : List Int) (LW : List Rc) : (clL q W L LW).length = L.length := by
  unfold clL; split
  · rw [upto_len]
  · rfl
theorem drN_le (cp : Rc) (W2 H2 : Nat) (s ax ay : Int) (W : Nat) (L : List Int) (LW : List Rc) : drN cp W2 H2 s ax ay W L LW ≤ L.length := by unfold drN; exact cntI_le _ _
theorem clN_le (q : Int) (W : Nat) (L : List Int) (LW : List Rc) : clNP q W L LW ≤ L.length := by
  unfold clNP; split
  · exact cntI_le _ _
  · exact Nat.zero_le _

theorem pclearU {pm pc W H : Nat} {L : List Int} (q : Int) (A0 : Option Addr) (k0 : Nat) (R0 : List Rc) (w : World) (hq : C32 q) (hI : Img w pm pc W H L) (hA : Rs w A0 R0) (hR0 : R0.length ≤ 1000000) :
    Calls Tryz.prog 61 #[.pointer (some ⟨pm, 0, none⟩), .slice A0 R0.length k0, .int .u32 q] w
      (fun e w' => e = .returned (.int .i64 (clNP q W L R0 : Nat)) ∧ w.grownBy w' (some pc) ∧ Img w' pm pc W H (clL q W L R0)) := by
  unfold clNP clL
  cases hm : mayC q with
  | true =>
    refine (pclear1 q A0 k0 R0 w hq hm hI hA hR0).mono fun e w' h => ?_
    obtain ⟨R, hQ, he, hg, hI'⟩ := h
    obtain ⟨e1, e2⟩ := clears_eq hI.w1 hI.len (q := q) hQ
    rw [e1] at hI'
    rw [e2] at he
    exact ⟨he, hg, hI'⟩
  | false =>
    refine (pclear0 q A0 k0 R0 w hq hm hI hA hR0).mono fun e w' h => ?_
    obtain ⟨he, g⟩ := h
    exact ⟨he, g.byr _, hI.bl g⟩
theorem pdrawU {pm pc W H p2 c2 W2 H2 : Nat} {L M : List Int} (ax ay s al : Int) (cp : Rc) (A0 : Option Addr) (k0 : Nat) (R0 : List Rc) (w : World) (hI : Img w pm pc W H L) (hJ : Img w p2 c2 W2 H2 M) (hne : p2 ≠ pm) (h1 : p2 ≠ pc) (h2 : c2 ≠ pc) (hL : MayL L) (hMM : MayL M)
    (hM : lyMay W2 H2 s al ax ay = true) (hs : 1 ≤ s) (hA : Rs w A0 R0) (hR0 : R0.length ≤ 1000000) :
    Calls Tryz.prog 60 #[.pointer (some ⟨pm, 0, none⟩), .agg #[.pointer (some ⟨p2, 0, none⟩), .int .i64 ax, .int .i64 ay, .int .i64 s, .int .i64 al, .int .i64 cp.a, .int .i64 cp.b, .int .i64 cp.c, .int .i64 cp.d], .slice A0 R0.length k0] w
      (fun e w' => e = .returned (.int .i64 (drN cp W2 H2 s ax ay W L R0 : Nat)) ∧ w.grownBy w' (some pc) ∧ Img w' pm pc W H (drL cp W2 H2 M s ax ay al W L R0)) := by
  refine (draw1 ax ay s al cp A0 k0 R0 w hI hJ hne h1 h2 hL hMM hM hA hR0).mono fun e w' h => ?_
  obtain ⟨R, hQ, he, hg, hI'⟩ := h
  obtain ⟨e1, e2⟩ := draws_eq hI.w1 hI.len (M := M) (al := al) hs hQ
  rw [e1] at hI'
  rw [e2] at he
  exact ⟨he, hg, hI'⟩
end Go.Proofs.YtablogiielclaaaGreat
namespace Go.Proofs.YtablogiielclaaaGreat
open Go.RowKit Go.Sort

theorem clL_out {q : Int} {W H : Nat} {F : List Int} {LW : List Rc} (hl : F.length = W * H) {x y : Int} (h : hasL LW x y = false) : atV W H (clL q W F LW) x y = atV W H F x y := by
  unfold atV
  split
  · rename_i hb
    obtain ⟨i, j, rfl, rfl, hi, hj⟩ := has_nat hb
    rw [ixP_nat]
    unfold clL
    split
    · have hk := row_of hi hj
      have e1 : (j * W + i) % W = i := by rw [Nat.add_comm, Nat.add_mul_mod_self_right, Nat.mod_eq_of_lt hi]
      have e2 : (j * W + i) / W = j := by rw [Nat.add_comm, Nat.add_mul_div_right _ _ (by omega), Nat.div_eq_of_lt hi, Nat.zero_add]
      rw [List.getD_eq_getElem?_getD, upto_get, if_pos (by rw [hl]; exact hk)]
      simp only [e1, e2, h, Option.getD_some]
      simp
    · rfl
  · rfl

theorem drL_at {cp : Rc} {W2 H2 : Nat} {F : List Int} {s ax ay al : Int} {Z : List Int} {LW : List Rc} {k : Nat} (hk : k < 256) (hZ : Z.length = 256) : atV 16 16 (drL cp W2 H2 F s ax ay al 16 Z LW) (k % 16 : Nat) (k / 16 : Nat) = if (lyHas cp W2 H2 s ax ay (k % 16 : Nat) (k / 16 : Nat) && hasL LW (k % 16 : Nat) (k / 16 : Nat)) = true then ov (lyCol cp W2 H2 F s ax ay al (k % 16 : Nat) (k / 16 : Nat)) (Z.getD k 0) else Z.getD k 0 := by
  unfold atV
  rw [if_pos (by simp [hasB]; omega), ixP_nat, show k / 16 * 16 + k % 16 = k by omega]
  unfold drL
  rw [List.getD_eq_getElem?_getD, upto_get, if_pos (by omega)]
  rfl

theorem places_apart {cp : Rc} {W2 H2 : Nat} {F : List Int} {s ax ay al q : Int} {Z : List Int} {RS R ALL : List Rc} {k : Nat} (hk : k < 256) (hZ : Z.length = 256) (hl : F.length = W2 * H2) (hs : 1 ≤ s)
    (hQ : OfQ g256 g256 (cutL (ownR cp W2 H2) RS) R) (hno : hasL (R.map (afR s ax ay)) (k % 16 : Nat) (k / 16 : Nat) = false) :
    atV 16 16 (drL cp W2 H2 F s ax ay al 16 Z ALL) (k % 16 : Nat) (k / 16 : Nat) = atV 16 16 (drL cp W2 H2 (clL q W2 F RS) s ax ay al 16 Z ALL) (k % 16 : Nat) (k / 16 : Nat) := by
  rw [drL_at hk hZ, drL_at hk hZ]
  rw [afL_has hs, own_in hQ] at hno
  have e : lyCol cp W2 H2 F s ax ay al (k % 16 : Nat) (k / 16 : Nat) = lyCol cp W2 H2 (clL q W2 F RS) s ax ay al (k % 16 : Nat) (k / 16 : Nat) := by
    unfold lyCol
    split
    · rename_i hy
      unfold lyHas at hy
      obtain ⟨h1, h2⟩ := Bool.and_eq_true_iff.1 hy
      rw [h1, h2, Bool.true_and, Bool.true_and] at hno
      rw [clL_out hl hno]
    · rfl
  rw [e]

theorem clL_mayL {q : Int} {W : Nat} {F : List Int} {LW : List Rc} (hq : C32 q) (hF : MayL F) : MayL (clL q W F LW) := by
  unfold clL
  split
  · rename_i hm
    intro c hc
    obtain ⟨i, hi, rfl⟩ := List.getElem_of_mem hc
    have h0 := List.getElem?_eq_getElem hi
    rw [upto_get] at h0
    split at h0
    · rename_i hlt
      rw [← Option.some.inj h0]
      split
      · exact ⟨hq, hm⟩
      · rw [List.getD_eq_getElem?_getD, List.getElem?_eq_getElem hlt]
        exact hF _ (List.getElem_mem hlt)
    · exact absurd h0 (by simp)
  · exact hF

theorem At.neq2 {w : World} {a b : Nat} {cs ds : Array Value} {t u : TypeId} (h : At w a cs t) (k : At w b ds u) (hne : t ≠ u) : a ≠ b := by
  rintro rfl
  unfold At at h k
  rw [h] at k
  injection k with k
  injection k with _ k
  exact hne k
theorem rs_oneP {w : World} {b : Nat} {a0 b0 c0 d0 : Int} (h : At w b #[.int .i64 a0, .int .i64 b0, .int .i64 c0, .int .i64 d0] 31) : Rs w (some ⟨b, 0, none⟩) [⟨a0, b0, c0, d0⟩] := by
  refine .inr ⟨b, 0, rfl, fun k r hk => ?_⟩
  match k, hk with
  | 0, hk =>
    cases hk
    exact ⟨by simpa using h.cell 0, by simpa using h.cell 1, by simpa using h.cell 2, by simpa using h.cell 3⟩

end Go.Proofs.YtablogiielclaaaGreat
namespace Go.Proofs.YtablogiielclaaaGreat
open Go.RowKit Go.Sort

theorem afR_sq (s ax ay : Int) (W k : Nat) : afR s ax ay (sqR W k) = ⟨ax + (k % W : Nat) * s, ay + (k / W : Nat) * s, ax + (k % W : Nat) * s + s, ay + (k / W : Nat) * s + s⟩ := by
  unfold afR sqR
  dsimp only
  rw [Int.mul_add, Int.mul_add, Int.mul_one, Int.mul_comm s, Int.mul_comm s]
  congr 1 <;> omega

theorem xs_facts {i : Nat} {s : Int} (h : i < 16) (hs : 1 ≤ s ∧ s ≤ 3) : ∃ X : Int, X = (i : Int) * s ∧ 0 ≤ X ∧ X ≤ 48 ∧ IntKind.i64.wrap ((i : Int) * s) = X ∧ wrap64 ((i : Int) * s) = X := by
  have hs3 : s = 1 ∨ s = 2 ∨ s = 3 := by omega
  have hb : 0 ≤ (i : Int) * s ∧ (i : Int) * s ≤ 48 := by rcases hs3 with rfl | rfl | rfl <;> omega
  exact ⟨_, rfl, hb.1, hb.2, IntWalk.i64_in _ (by omega), w64 (by omega) (by omega)⟩

/-- A layer of the document's whose place may lie anywhere. -/
structure LyK (W H n : Nat) (F : List Int) (a1 a2 s1 l1 : Int) : Prop where
  w1 : 1 ≤ W
  w2 : W ≤ 16
  h1 : 1 ≤ H
  h2 : H ≤ 16
  hn : n = W * H
  len : F.length = n
  may : MayL F
  b1 : -1048576 ≤ a1 ∧ a1 ≤ 1048576
  b2 : -1048576 ≤ a2 ∧ a2 ≤ 1048576
  b3 : 1 ≤ s1 ∧ s1 ≤ 3
  b4 : 0 ≤ l1 ∧ l1 ≤ 255
theorem LyG.k {W H n : Nat} {F : List Int} {a1 a2 s1 l1 : Int} (h : LyG W H n F a1 a2 s1 l1) : LyK W H n F a1 a2 s1 l1 := by
  obtain ⟨w1, w2, h1, h2, hn, hlen, hmay, b1, b2, b3, b4⟩ := h
  exact ⟨w1, w2, h1, h2, hn, hlen, hmay, by omega, by omega, b3, b4⟩

set_option maxRecDepth 100000 in
set_option maxHeartbeats 8000000 in
theorem rplaceK {W H rb rc n : Nat} {F : List Int} {ax ay s al : Int} (cp : Rc) (A : Option Addr) (c : Nat) (LW : List Rc) (sd : Bool) (w : World) (hG : LyK W H n F ax ay s al) (hR : RowN .u32 w rb 0 F) (hA : Rs w A LW) (hl : LW.length ≤ 1000000) :
    Calls Tryz.prog 57 #[.agg #[.bool true, .int .i64 W, .int .i64 H, .slice (some ⟨rb, 0, none⟩) n rc, .int .i64 ax, .int .i64 ay, .int .i64 s, .int .i64 al, .int .i64 cp.a, .int .i64 cp.b, .int .i64 cp.c, .int .i64 cp.d], .slice A LW.length c, .bool sd] w (RR w (OfQ (gAx s ax) (gAx s ay) ((plS (plB cp F W al LW sd) W (W * H)).map (afR s ax ay)))) := by
  obtain ⟨w1, w2, h1, h2, hn, hlen, hmay, b1, b2, b3, b4⟩ := hG
  have hfin := fun (D : List Rc) (h : D = (plS (plB cp F W al LW sd) W (W * H)).map (afR s ax ay)) => (show InNe (gAx s ax) (gAx s ay) D ∧ D.length ≤ 256 from ⟨by rw [h]; exact gAx_in w2 h2 w1 _, by
    rw [h, List.length_map]
    refine Nat.le_trans (plS_len _ _ _) ?_
    exact Nat.le_trans (Nat.mul_le_mul w2 h2) (by decide)⟩)
  have hgrid := gAx_grid b3 b1 b2
  have hn256 : n ≤ 256 := by rw [hn]; exact Nat.le_trans (Nat.mul_le_mul w2 h2) (by decide)
  rw [← hn] at hfin ⊢
  have hget : ∀ k, k < n → F[k]? = some (F.getD k 0) ∧ C32 (F.getD k 0) := fun k hk => by
    have hk' : k < F.length := by rw [hlen]; exact hk
    rw [List.getD, List.getElem?_eq_getElem hk']
    exact ⟨rfl, (hmay _ (List.getElem_mem hk')).1⟩
  have hPd : ∀ k, plB cp F W al LW sd k = ((!sd || (pA (F.getD k 0) == 255 && al == 255)) && (hasB cp.a cp.b cp.c cp.d (k % W : Nat) (k / W : Nat) && hasL LW (k % W : Nat) (k / W : Nat))) := fun k => rfl
  obtain ⟨P, hP⟩ : ∃ P, P = plB cp F W al LW sd := ⟨_, rfl⟩
  rw [← hP] at hfin ⊢
  rw [← hP] at hPd
  have hnn := Lib.hid hn
  have hgett := Lib.hid hget
  have hPP := Lib.hid hPd
  replace hfin := Lib.hid hfin
  clear hn hget hP hPd hmay hlen
  have M0 := At.new w #[.bool true, .int .i64 W, .int .i64 H, .slice (some ⟨rb, 0, none⟩) n rc, .int .i64 ax, .int .i64 ay, .int .i64 s, .int .i64 al, .int .i64 cp.a, .int .i64 cp.b, .int .i64 cp.c, .int .i64 cp.d] 124
  have g0 := (Gr.refl w).alloc (.cells #[.bool true, .int .i64 W, .int .i64 H, .slice (some ⟨rb, 0, none⟩) n rc, .int .i64 ax, .int .i64 ay, .int .i64 s, .int .i64 al, .int .i64 cp.a, .int .i64 cp.b, .int .i64 cp.c, .int .i64 cp.d] 124)
  go_enter Tryz.func57, Tryz.ntmps57
  go_upto_region 3 with fail
  obtain ⟨W0, hW0⟩ : ∃ W0, W0 = w.alloc (.cells #[.bool true, .int .i64 W, .int .i64 H, .slice (some ⟨rb, 0, none⟩) n rc, .int .i64 ax, .int .i64 ay, .int .i64 s, .int .i64 al, .int .i64 cp.a, .int .i64 cp.b, .int .i64 cp.c, .int .i64 cp.d] 124) := ⟨_, rfl⟩
  obtain ⟨bm, hbm⟩ : ∃ bm, bm = w.heap.size := ⟨_, rfl⟩
  obtain ⟨B, hB⟩ : ∃ B, B = W0.heap.size := ⟨_, rfl⟩
  rw [← hW0] at M0 g0 ⊢
  rw [← hbm] at M0 ⊢
  have hwB : w.heap.size ≤ B := by rw [hB]; exact g0.size
  have hBW : B ≤ W0.heap.size := Nat.le_of_eq hB
  have hWB : W0.heap.size ≤ B := Nat.le_of_eq hB.symm
  have hbB : bm < B := by rw [hB]; exact M0.lt
  clear hW0 hbm hB
  have G0 := g0.bl
  clear g0
  go_loopw [7, 8] (fun l i wr => ∃ (k : Nat) (A' : Option Addr) (c' : Nat) (D : List Rc), k ≤ n ∧ i = .int .i64 k ∧ l = .slice A' D.length c' ∧ Hid (D = (plS P W k).map (afR s ax ay)) ∧ OwR wr B A' c' D ∧ At wr bm #[.bool true, .int .i64 W, .int .i64 H, .slice (some ⟨rb, 0, none⟩) n rc, .int .i64 ax, .int .i64 ay, .int .i64 s, .int .i64 al, .int .i64 cp.a, .int .i64 cp.b, .int .i64 cp.c, .int .i64 cp.d] 124 ∧ Bl W0 wr)
    (fun _ i _ => n - (intOf i).toNat)
  case atStart => exact ⟨0, none, 0, [], Nat.zero_le _, rfl, rfl, Lib.hid rfl, OwR.nil _ _, M0, Bl.refl _⟩
  case round =>
    obtain ⟨k, A', c', D, hk, rfl, rfl, hD, ow, Mk, Gk⟩ := hrel
    have hDl : D.length ≤ 256 := by
      rw [hD.out, List.length_map]
      exact Nat.le_trans (plS_len _ _ _) (by omega)
    have m0 : wr.cell? ⟨bm, 0, none⟩ = some (.bool true) := Mk.cell 0
    have m1 : wr.cell? ⟨bm, 1, none⟩ = some (.int .i64 W) := Mk.cell 1
    have m2 : wr.cell? ⟨bm, 2, none⟩ = some (.int .i64 H) := Mk.cell 2
    have m3 : wr.cell? ⟨bm, 3, none⟩ = some (.slice (some ⟨rb, 0, none⟩) n rc) := Mk.cell 3
    have m4 : wr.cell? ⟨bm, 4, none⟩ = some (.int .i64 ax) := Mk.cell 4
    have m5 : wr.cell? ⟨bm, 5, none⟩ = some (.int .i64 ay) := Mk.cell 5
    have m6 : wr.cell? ⟨bm, 6, none⟩ = some (.int .i64 s) := Mk.cell 6
    have m7 : wr.cell? ⟨bm, 7, none⟩ = some (.int .i64 al) := Mk.cell 7
    have m8 : wr.cell? ⟨bm, 8, none⟩ = some (.int .i64 cp.a) := Mk.cell 8
    have m9 : wr.cell? ⟨bm, 9, none⟩ = some (.int .i64 cp.b) := Mk.cell 9
    have m10 : wr.cell? ⟨bm, 10, none⟩ = some (.int .i64 cp.c) := Mk.cell 10
    have m11 : wr.cell? ⟨bm, 11, none⟩ = some (.int .i64 cp.d) := Mk.cell 11
    by_cases hlt : k < n
    · obtain ⟨d1, d2, d3⟩ := div_of (k := k) (H := H) w1 (by rw [← hnn.out]; exact hlt)
      obtain ⟨i, j, hi, hj, x1, x2, x3, x4, x5, x6, x7, x8⟩ := rem_quo k W w1 (by omega)
      obtain ⟨hq, hq32⟩ := hgett.out k hlt
      have hpk := hPP.out k
      have hsu := plS_succ P W k
      have hsq := afR_sq s ax ay W k
      rw [← hi, ← hj] at hpk hsq
      rw [← hi] at d1
      rw [← hj] at d2
      clear hi hj d3
      generalize F.getD k 0 = q at *
      have hc1 : ∀ wr', Bl wr wr' → wr'.cell? ⟨rb, k, none⟩ = some (.int .u32 q) := fun wr' g => by have := (hR.bl ((G0.trans Gk).trans g)) _ _ hq; rwa [Nat.zero_add] at this
      have hc0 := hc1 wr (Bl.refl _)
      obtain ⟨X, hX, hX0, hX1, y1, y3⟩ := xs_facts (i := i) (by exact Nat.lt_of_lt_of_le d1 w2) b3
      obtain ⟨Y, hY, hY0, hY1, y2, y4⟩ := xs_facts (i := j) (by exact Nat.lt_of_lt_of_le d2 h2) b3
      rw [← hX, ← hY] at hsq
      have hX' := Lib.hid hX
      have hY' := Lib.hid hY
      clear hX hY
      have hpk' := Lib.hid hpk
      have hsu' := Lib.hid hsu
      have hsq' := Lib.hid hsq
      clear hpk hsu hsq hq
      have cP := fun w' => refparts1 q w' hq32
      have ch := fun w' => refhas1 cp.a cp.b cp.c cp.d i j w'
      have cw := fun (w' : World) (g : Bl W0 w') => refHas1 A c LW i j w' ((hA.bl G0).bl g) (Nat.le_trans hl (by decide))
      clear w1 w2 h1 h2
      go_upto_region 7 with fail
      clear x1 x2 x3 x4 x5 x6 x7 x8
      go_wp2_with fail
      refine (cP _).mono ?_
      rintro e v1 ⟨rfl, g1⟩
      go_upto_region 8 with fail
      have Ap := At.new v1 #[.int .i64 (pA q), .int .i64 (pR q), .int .i64 (pG q), .int .i64 (pB q)] 152
      have M1 := (Mk.gr g1).alloc (.cells #[.int .i64 (pA q), .int .i64 (pR q), .int .i64 (pG q), .int .i64 (pB q)] 152)
      have ow1 := (ow.bl g1.bl).bl ((Bl.refl _).alloc (.cells #[.int .i64 (pA q), .int .i64 (pR q), .int .i64 (pG q), .int .i64 (pB q)] 152))
      have G1 := (Gk.gr g1).alloc (.cells #[.int .i64 (pA q), .int .i64 (pR q), .int .i64 (pG q), .int .i64 (pB q)] 152)
      generalize v1.alloc (.cells #[.int .i64 (pA q), .int .i64 (pR q), .int .i64 (pG q), .int .i64 (pB q)] 152) = V1 at *
      generalize v1.heap.size = bp at *
      have hsk := Lib.hid (fun (h : P k = false) => (show D = (plS P W (k + 1)).map (afR s ax ay) from by rw [hsu'.out, h, hD.out]; rfl))
      have hal := Lib.hid (fun (h : P k = true) => (show (plS P W (k + 1)).map (afR s ax ay) = D ++ [⟨ax + X, ay + Y, ax + X + s, ay + Y + s⟩] from by rw [hsu'.out, if_pos h, List.map_append, ← hD.out, List.map_singleton, hsq'.out]))
      have hlA := Lib.hid (fun (k : Nat) (hk : A'.map (·.block) = some k) => (show B ≤ k from by
        rcases ow.lies with rfl | ⟨g, rfl, h1, _⟩
        · cases hk
        · cases hk; exact h1))
      have hpk := hpk'.out
      have p0 : V1.cell? ⟨bp, 0, none⟩ = some (.int .i64 (pA q)) := Ap.cell 0
      clear m0 m1 m2 m3 m4 m5 m6 m7 m8 m9 m10 m11 hc1 hc0 hsu' hsq' hpk' hX' hY' cP ow Mk Gk g1 hgett hPP hfin
      have m0 : V1.cell? ⟨bm, 0, none⟩ = some (.bool true) := M1.cell 0
      have m1 : V1.cell? ⟨bm, 1, none⟩ = some (.int .i64 W) := M1.cell 1
      have m2 : V1.cell? ⟨bm, 2, none⟩ = some (.int .i64 H) := M1.cell 2
      have m3 : V1.cell? ⟨bm, 3, none⟩ = some (.slice (some ⟨rb, 0, none⟩) n rc) := M1.cell 3
      have m4 : V1.cell? ⟨bm, 4, none⟩ = some (.int .i64 ax) := M1.cell 4
      have m5 : V1.cell? ⟨bm, 5, none⟩ = some (.int .i64 ay) := M1.cell 5
      have m6 : V1.cell? ⟨bm, 6, none⟩ = some (.int .i64 s) := M1.cell 6
      have m7 : V1.cell? ⟨bm, 7, none⟩ = some (.int .i64 al) := M1.cell 7
      have m8 : V1.cell? ⟨bm, 8, none⟩ = some (.int .i64 cp.a) := M1.cell 8
      have m9 : V1.cell? ⟨bm, 9, none⟩ = some (.int .i64 cp.b) := M1.cell 9
      have m10 : V1.cell? ⟨bm, 10, none⟩ = some (.int .i64 cp.c) := M1.cell 10
      have m11 : V1.cell? ⟨bm, 11, none⟩ = some (.int .i64 cp.d) := M1.cell 11
      cases sd
      · have hpg := Lib.hid (by rw [hpk]; rfl : P k = (hasB cp.a cp.b cp.c cp.d i j && hasL LW i j))
        clear hpk
        go_wp2_with fail
        refine (ch _).mono ?_
        rintro e v2 ⟨rfl, g2⟩
        have ow2 := ow1.bl g2.bl
        have M2 := M1.gr g2
        have G2 := G1.gr g2
        have m0 : v2.cell? ⟨bm, 0, none⟩ = some (.bool true) := M2.cell 0
        have m1 : v2.cell? ⟨bm, 1, none⟩ = some (.int .i64 W) := M2.cell 1
        have m2 : v2.cell? ⟨bm, 2, none⟩ = some (.int .i64 H) := M2.cell 2
        have m3 : v2.cell? ⟨bm, 3, none⟩ = some (.slice (some ⟨rb, 0, none⟩) n rc) := M2.cell 3
        have m4 : v2.cell? ⟨bm, 4, none⟩ = some (.int .i64 ax) := M2.cell 4
        have m5 : v2.cell? ⟨bm, 5, none⟩ = some (.int .i64 ay) := M2.cell 5
        have m6 : v2.cell? ⟨bm, 6, none⟩ = some (.int .i64 s) := M2.cell 6
        have m7 : v2.cell? ⟨bm, 7, none⟩ = some (.int .i64 al) := M2.cell 7
        have m8 : v2.cell? ⟨bm, 8, none⟩ = some (.int .i64 cp.a) := M2.cell 8
        have m9 : v2.cell? ⟨bm, 9, none⟩ = some (.int .i64 cp.b) := M2.cell 9
        have m10 : v2.cell? ⟨bm, 10, none⟩ = some (.int .i64 cp.c) := M2.cell 10
        have m11 : v2.cell? ⟨bm, 11, none⟩ = some (.int .i64 cp.d) := M2.cell 11
        cases hh : hasB cp.a cp.b cp.c cp.d i j
        · have hskip := Lib.hid (hsk.out (by rw [hpg.out, hh]; rfl))
          go_wp2
          go_roundw
          case rel => exact ⟨k + 1, A', c', D, by omega, by simp, rfl, hskip, ow2, M2, G2⟩
          case measure => simp [intOf]; omega
        · go_wp2_with fail
          refine (cw _ G2).mono ?_
          rintro e v3 ⟨rfl, g3⟩
          have ow3 := ow2.bl g3.bl
          have M3 := M2.gr g3
          have G3 := G2.gr g3
          have m0 : v3.cell? ⟨bm, 0, none⟩ = some (.bool true) := M3.cell 0
          have m1 : v3.cell? ⟨bm, 1, none⟩ = some (.int .i64 W) := M3.cell 1
          have m2 : v3.cell? ⟨bm, 2, none⟩ = some (.int .i64 H) := M3.cell 2
          have m3 : v3.cell? ⟨bm, 3, none⟩ = some (.slice (some ⟨rb, 0, none⟩) n rc) := M3.cell 3
          have m4 : v3.cell? ⟨bm, 4, none⟩ = some (.int .i64 ax) := M3.cell 4
          have m5 : v3.cell? ⟨bm, 5, none⟩ = some (.int .i64 ay) := M3.cell 5
          have m6 : v3.cell? ⟨bm, 6, none⟩ = some (.int .i64 s) := M3.cell 6
          have m7 : v3.cell? ⟨bm, 7, none⟩ = some (.int .i64 al) := M3.cell 7
          have m8 : v3.cell? ⟨bm, 8, none⟩ = some (.int .i64 cp.a) := M3.cell 8
          have m9 : v3.cell? ⟨bm, 9, none⟩ = some (.int .i64 cp.b) := M3.cell 9
          have m10 : v3.cell? ⟨bm, 10, none⟩ = some (.int .i64 cp.c) := M3.cell 10
          have m11 : v3.cell? ⟨bm, 11, none⟩ = some (.int .i64 cp.d) := M3.cell 11
          cases hh2 : hasL LW i j
          · have hskip := Lib.hid (hsk.out (by rw [hpg.out, hh, hh2]; rfl))
            go_wp2
            go_roundw
            case rel => exact ⟨k + 1, A', c', D, by omega, by simp, rfl, hskip, ow3, M3, G3⟩
            case measure => simp [intOf]; omega
          · have hall := Lib.hid (hal.out (by rw [hpg.out, hh, hh2]; rfl))
            have A3 := (M3.alloc (.cells #[.int .i64 (ax + X), .int .i64 (ay + Y), .int .i64 (ax + X + s), .int .i64 (ay + Y + s)] 31))
            have H3 := (G3.alloc (.cells #[.int .i64 (ax + X), .int .i64 (ay + Y), .int .i64 (ax + X + s), .int .i64 (ay + Y + s)] 31))
            go_wp2_with (at_builtin; refine wp_app_r rfl (.tmp 59) (.tmp 99) rfl A' c' D rfl B (ow3.bl ((Bl.refl v3).alloc (.cells #[.int .i64 (ax + X), .int .i64 (ay + Y), .int .i64 (ax + X + s), .int .i64 (ay + Y + s)] 31))) v3.heap.size ⟨ax + X, ay + Y, ax + X + s, ay + Y + s⟩ 1 rfl (At.new v3 #[.int .i64 (ax + X), .int .i64 (ay + Y), .int .i64 (ax + X + s), .int .i64 (ay + Y + s)] 31) (by omega) (by have := G3.size; simp; omega) ?_; intro A2 c2 wa ow4 ap)
            go_roundw
            case rel => exact ⟨k + 1, A2, c2, D ++ [⟨ax + X, ay + Y, ax + X + s, ay + Y + s⟩], by omega, by simp, by simp, Lib.hid hall.out.symm, ow4, A3.kept ap.1 (fun e => by have := hlA.out _ e.symm; omega), H3.grown ap.1 (fun k hk => by have := hlA.out _ hk; omega)⟩
            case measure => simp [intOf]; omega
      · generalize pA q = pq at *
        by_cases hp : pq = 255
        · subst hp
          by_cases ha : al = 255
          · subst ha
            have hpg := Lib.hid (by rw [hpk]; rfl : P k = (hasB cp.a cp.b cp.c cp.d i j && hasL LW i j))
            clear hpk
            go_wp2_with fail
            refine (ch _).mono ?_
            rintro e v2 ⟨rfl, g2⟩
            have ow2 := ow1.bl g2.bl
            have M2 := M1.gr g2
            have G2 := G1.gr g2
            have m0 : v2.cell? ⟨bm, 0, none⟩ = some (.bool true) := M2.cell 0
            have m1 : v2.cell? ⟨bm, 1, none⟩ = some (.int .i64 W) := M2.cell 1
            have m2 : v2.cell? ⟨bm, 2, none⟩ = some (.int .i64 H) := M2.cell 2
            have m3 : v2.cell? ⟨bm, 3, none⟩ = some (.slice (some ⟨rb, 0, none⟩) n rc) := M2.cell 3
            have m4 : v2.cell? ⟨bm, 4, none⟩ = some (.int .i64 ax) := M2.cell 4
            have m5 : v2.cell? ⟨bm, 5, none⟩ = some (.int .i64 ay) := M2.cell 5
            have m6 : v2.cell? ⟨bm, 6, none⟩ = some (.int .i64 s) := M2.cell 6
            have m7 : v2.cell? ⟨bm, 7, none⟩ = some (.int .i64 255) := M2.cell 7
            have m8 : v2.cell? ⟨bm, 8, none⟩ = some (.int .i64 cp.a) := M2.cell 8
            have m9 : v2.cell? ⟨bm, 9, none⟩ = some (.int .i64 cp.b) := M2.cell 9
            have m10 : v2.cell? ⟨bm, 10, none⟩ = some (.int .i64 cp.c) := M2.cell 10
            have m11 : v2.cell? ⟨bm, 11, none⟩ = some (.int .i64 cp.d) := M2.cell 11
            cases hh : hasB cp.a cp.b cp.c cp.d i j
            · have hskip := Lib.hid (hsk.out (by rw [hpg.out, hh]; rfl))
              go_wp2
              go_roundw
              case rel => exact ⟨k + 1, A', c', D, by omega, by simp, rfl, hskip, ow2, M2, G2⟩
              case measure => simp [intOf]; omega
            · go_wp2_with fail
              refine (cw _ G2).mono ?_
              rintro e v3 ⟨rfl, g3⟩
              have ow3 := ow2.bl g3.bl
              have M3 := M2.gr g3
              have G3 := G2.gr g3
              have m0 : v3.cell? ⟨bm, 0, none⟩ = some (.bool true) := M3.cell 0
              have m1 : v3.cell? ⟨bm, 1, none⟩ = some (.int .i64 W) := M3.cell 1
              have m2 : v3.cell? ⟨bm, 2, none⟩ = some (.int .i64 H) := M3.cell 2
              have m3 : v3.cell? ⟨bm, 3, none⟩ = some (.slice (some ⟨rb, 0, none⟩) n rc) := M3.cell 3
              have m4 : v3.cell? ⟨bm, 4, none⟩ = some (.int .i64 ax) := M3.cell 4
              have m5 : v3.cell? ⟨bm, 5, none⟩ = some (.int .i64 ay) := M3.cell 5
              have m6 : v3.cell? ⟨bm, 6, none⟩ = some (.int .i64 s) := M3.cell 6
              have m7 : v3.cell? ⟨bm, 7, none⟩ = some (.int .i64 255) := M3.cell 7
              have m8 : v3.cell? ⟨bm, 8, none⟩ = some (.int .i64 cp.a) := M3.cell 8
              have m9 : v3.cell? ⟨bm, 9, none⟩ = some (.int .i64 cp.b) := M3.cell 9
              have m10 : v3.cell? ⟨bm, 10, none⟩ = some (.int .i64 cp.c) := M3.cell 10
              have m11 : v3.cell? ⟨bm, 11, none⟩ = some (.int .i64 cp.d) := M3.cell 11
              cases hh2 : hasL LW i j
              · have hskip := Lib.hid (hsk.out (by rw [hpg.out, hh, hh2]; rfl))
                go_wp2
                go_roundw
                case rel => exact ⟨k + 1, A', c', D, by omega, by simp, rfl, hskip, ow3, M3, G3⟩
                case measure => simp [intOf]; omega
              · have hall := Lib.hid (hal.out (by rw [hpg.out, hh, hh2]; rfl))
                have A3 := (M3.alloc (.cells #[.int .i64 (ax + X), .int .i64 (ay + Y), .int .i64 (ax + X + s), .int .i64 (ay + Y + s)] 31))
                have H3 := (G3.alloc (.cells #[.int .i64 (ax + X), .int .i64 (ay + Y), .int .i64 (ax + X + s), .int .i64 (ay + Y + s)] 31))
                go_wp2_with (at_builtin; refine wp_app_r rfl (.tmp 59) (.tmp 99) rfl A' c' D rfl B (ow3.bl ((Bl.refl v3).alloc (.cells #[.int .i64 (ax + X), .int .i64 (ay + Y), .int .i64 (ax + X + s), .int .i64 (ay + Y + s)] 31))) v3.heap.size ⟨ax + X, ay + Y, ax + X + s, ay + Y + s⟩ 1 rfl (At.new v3 #[.int .i64 (ax + X), .int .i64 (ay + Y), .int .i64 (ax + X + s), .int .i64 (ay + Y + s)] 31) (by omega) (by have := G3.size; simp; omega) ?_; intro A2 c2 wa ow4 ap)
                go_roundw
                case rel => exact ⟨k + 1, A2, c2, D ++ [⟨ax + X, ay + Y, ax + X + s, ay + Y + s⟩], by omega, by simp, by simp, Lib.hid hall.out.symm, ow4, A3.kept ap.1 (fun e => by have := hlA.out _ e.symm; omega), H3.grown ap.1 (fun k hk => by have := hlA.out _ hk; omega)⟩
                case measure => simp [intOf]; omega
          · have hskip := Lib.hid (hsk.out (by rw [hpk]; simp [ha]))
            clear hpk
            go_wp2
            go_roundw
            case rel => exact ⟨k + 1, A', c', D, by omega, by simp, rfl, hskip, ow1, M1, G1⟩
            case measure => simp [intOf]; omega
        · have hskip := Lib.hid (hsk.out (by rw [hpk]; simp [hp]))
          clear hpk
          go_wp2
          go_roundw
          case rel => exact ⟨k + 1, A', c', D, by omega, by simp, rfl, hskip, ow1, M1, G1⟩
          case measure => simp [intOf]; omega
    · obtain rfl : k = n := by omega
      obtain ⟨hin, hDn⟩ := hfin.out D hD.out
      have co := refof1 A' c' D (gAx s ax) (gAx s ay) wr ow.rs (by omega) hgrid hin
      go_wp2_with fail
      refine co.mono ?_
      rintro e w3 ⟨A3, c3, R, rfl, own, hQ, g3⟩
      replace hQ := Lib.hid hQ
      have hs := own.base (B' := w.heap.size) (Nat.le_trans G0.size Gk.size)
      go_wp2
      go_ret
      refine ⟨A3, c3, R, rfl, hs, ?_, (G0.trans Gk).trans g3⟩
      rw [← hD.out]
      exact hQ.out

theorem rplace1 {W H rb rc n : Nat} {F : List Int} {ax ay s al : Int} (cp : Rc) (A : Option Addr) (c : Nat) (LW : List Rc) (sd : Bool) (w : World) (hG : LyG W H n F ax ay s al) (hR : RowN .u32 w rb 0 F) (hA : Rs w A LW) (hl : LW.length ≤ 1000000) :
    Calls Tryz.prog 57 #[.agg #[.bool true, .int .i64 W, .int .i64 H, .slice (some ⟨rb, 0, none⟩) n rc, .int .i64 ax, .int .i64 ay, .int .i64 s, .int .i64 al, .int .i64 cp.a, .int .i64 cp.b, .int .i64 cp.c, .int .i64 cp.d], .slice A LW.length c, .bool sd] w (RR w (OfQ (gAx s ax) (gAx s ay) ((plS (plB cp F W al LW sd) W (W * H)).map (afR s ax ay)))) :=
  rplaceK cp A c LW sd w hG.k hR hA hl

end Go.Proofs.YtablogiielclaaaGreat
namespace Go.Proofs.YtablogiielclaaaGreat
open Go.RowKit Go.Sort

theorem places_has {cp : Rc} {W2 H2 : Nat} {F XC XM XO : List Int} {s ax ay al q : Int} {RS RP ALL : List Rc} (hP : PlQ cp W2 H2 s ax ay RS RP)
    (hM : XM = drL cp W2 H2 F s ax ay al 16 (List.replicate 256 0) ALL) (hO : XO = drL cp W2 H2 XC s ax ay al 16 (List.replicate 256 0) ALL) (hC : XC = clL q W2 F RS) (hl : F.length = W2 * H2) (hs : 1 ≤ s) :
    RP.length ≤ 9000000000000000000 ∧ ∀ k : Nat, k < 256 → atV 16 16 XM (k % 16 : Nat) (k / 16 : Nat) ≠ atV 16 16 XO (k % 16 : Nat) (k / 16 : Nat) → hasL RP (k % 16 : Nat) (k / 16 : Nat) = true := by
  obtain ⟨R, hR, e⟩ := hP
  refine ⟨by rw [e, List.length_map]; exact Nat.le_trans (reg_len hR.reg hR.inr grid256) (by decide), fun k hk hne => ?_⟩
  cases hh : hasL RP (k % 16 : Nat) (k / 16 : Nat)
  · refine absurd ?_ hne
    rw [e] at hh
    rw [hM, hO, hC]
    exact places_apart hk List.length_replicate hl hs hR hh
  · rfl

end Go.Proofs.YtablogiielclaaaGreat
namespace Go.Proofs.YtablogiielclaaaGreat

/-- The code behind a region. -/
def behindC (n : Nat) : Code → Option Code
  | .seq a b => match a with
    | .region m _ _ => if m = n then some b else behindC n b
    | a => match behindC n a with
      | some c => some c
      | none => behindC n b
  | .block _ c => behindC n c
  | .scope c => behindC n c
  | .loop c => behindC n c
  | .cond _ a b => match behindC n a with
    | some c => some c
    | none => behindC n b
  | _ => none
/-- The code from a region on. -/
def fromC (n : Nat) : Code → Option Code
  | .seq (.region m o d) b => if m = n then some (.seq (.region m o d) b) else fromC n b
  | .seq a b => match fromC n a with
    | some c => some c
    | none => fromC n b
  | .block _ c => fromC n c
  | .scope c => fromC n c
  | .loop c => fromC n c
  | .cond _ a b => match fromC n a with
    | some c => some c
    | none => fromC n b
  | _ => none

end Go.Proofs.YtablogiielclaaaGreat
namespace Go.Proofs.YtablogiielclaaaGreat

theorem joined_of (P : Program) (f : FuncId) (fn : Func) (s : ChangeSpec) (c : OpenClaim)
    (h0 : (c.wf (OpenSpec.ofChange s)) = true)
    (h1 : (laidOutB P) = true)
    (h2 : (mapsRowed P) = true)
    (h3 : (fn.params.all (P.readableRec ·)) = true)
    (h4 : (namedTie P c.named s.vars) = true)
    (h5 : ((c.stops == [])) = true)
    (h6 : ((P.stops == [])) = true)
    (h7 : ((c.knobs == [])) = true)
    (h8 : ((P.stopKnobs == [])) = true)
    (h9 : ((c.inPlace == P.inPlace f)) = true)
    (h10 : ((c.unfollowed == P.unfollowed f)) = true)
    (h11 : ((c.recurses == P.recurses f)) = true)
    (h12 : ((c.named == P.varsNamed f)) = true)
    (h13 : ((c.maps == (fn.params.toList ++ s.plain.varTypes P).any (P.mapsRec ·))) = true)
    (h14 : ((c.ifaces == (fn.params.toList ++ s.plain.varTypes P).any (P.ifacesRec ·))) = true)
    (h15 : ((c.mapsOut == P.mapsAmong fn.resultTypes.toList)) = true)
    (h16 : ((c.loops == (fn.params.toList ++ s.plain.varTypes P).any (P.loopsFrom ·))) = true)
    (h17 : ((c.wideKeys == (fn.params.toList ++ s.plain.varTypes P ++ fn.resultTypes.toList).any (P.wideKeysFrom ·))) = true)
    (h18 : (s.vars.all (P.varReadable ·)) = true)
    (h19 : (fn.resultTypes.all (fun t => P.readableRec t && decide (t < P.types.size))) = true)
    (h20 : ((c.ifacesOut == fn.resultTypes.toList.any (P.ifacesRec ·))) = true)
    (h21 : ((c.loopsOut == fn.resultTypes.toList.any (P.loopsFrom ·))) = true)
    (h22 : ((c.plainKeys == P.plainKeys)) = true)
    (h23 : (c.shortTexts.isNone) = true)
    (h24 : (P.stopsHeard) = true)
    (h25 : (P.mayEnter) = true)
    (h26 : ((c.lifted == P.liftsFinal)) = true)
    (h27 : ((P.make == some c.make)) = true)
    (h28 : ((c.kinds == (if c.domain.isEmpty then [] else fn.params.toList.map fun t => match P.underlying t with | some (.int k) => some k | _ => none))) = true)
    (h29 : ((c.pinned == c.pinnedBy)) = true)
    (h30 : ((c.veiled == (fn.params.toList ++ s.plain.varTypes P ++ fn.resultTypes.toList).any (P.veiledRec ·))) = true)
    (h31 : (c.veiledFits P fn.params.toList (fn.params.toList ++ s.plain.varTypes P ++ fn.resultTypes.toList)) = true) : joinedFacts P f fn s c = true := by
  unfold joinedFacts
  simp only [Bool.and_eq_true]
  exact ⟨⟨⟨⟨⟨⟨⟨⟨⟨⟨⟨⟨⟨⟨⟨⟨⟨⟨⟨⟨⟨⟨⟨⟨⟨⟨⟨⟨⟨⟨⟨h0, h1⟩, h2⟩, h3⟩, h4⟩, h5⟩, h6⟩, h7⟩, h8⟩, h9⟩, h10⟩, h11⟩, h12⟩, h13⟩, h14⟩, h15⟩, h16⟩, h17⟩, h18⟩, h19⟩, h20⟩, h21⟩, h22⟩, h23⟩, h24⟩, h25⟩, h26⟩, h27⟩, h28⟩, h29⟩, h30⟩, h31⟩

end Go.Proofs.YtablogiielclaaaGreat
