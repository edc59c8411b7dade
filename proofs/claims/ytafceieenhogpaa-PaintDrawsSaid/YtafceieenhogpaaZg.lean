/-
  What is proved: what 'merge' of package region hands back of two regions: the region of the points that are kept. plain facts on the document's own answer for regions: its rows put under one another; no Go in sight. plain facts on the numbers of a list of rectangles; and on which rows of rectangles have the same sides; no Go in sight. what Union, Cut, Less, Other of package region hand back of two regions, and Of of any rectangles. what the document's own 'Small' hands back: rectangles near 0. an argument that is a row of rectangles reads as a list of them. No conditions.
-/
import Derived.Test.YtafceieenhogpaaF
import Derived.Test.YtafceieenhogpaaZf
import Derived.Deep.RegionHeld3
import Derived.IntWalk
import Derived.Carry
import Derived.Deep.Slices
import Derived.Deep.Fields
namespace Go.Proofs.Ytafceieenhogpaa
open Go.RowKit Go.Sort

/-- Numbers of two short lists. -/
structure Grid (X Y : List Int) : Prop where
  x : X.length ≤ 1000
  y : Y.length ≤ 1000
  i : I64s X
/-- What a merge tells. -/
structure MQ (X Y : List Int) (a b : List Rc) (kp : Bool → Bool → Bool) (L : List Rc) : Prop where
  reg : IsReg L
  inr : InR X Y L
  has : ∀ x y, hasL L x y = kp (hasL a x y) (hasL b x y)

theorem OwBs.bs {w : World} {B : Nat} {A : Option Addr} {c : Nat} {l : List BW} (h : OwBs w B A c l) : Bs w A l ∧ l.length ≤ c := by
  have hc := h.1.cap
  rw [List.length_map] at hc
  refine ⟨⟨?_, fun r hr => ⟨(h.2 r hr).cap, (h.2 r hr).is⟩⟩, hc⟩
  rcases h.1.addr with ⟨_, _, h0⟩ | ⟨g, rfl, _⟩
  · left; simpa using h0
  · right; exact ⟨g, 0, rfl, h.1.row⟩
theorem OwBs.capmax {w : World} {B : Nat} {A : Option Addr} {c : Nat} {l : List BW} (h : OwBs w B A c l) : c ≤ 9223372036854775807 := by
  rcases h.1.2 with ⟨h1, _⟩ | ⟨g, cap, cur, h1, _, _, _, h4, _⟩
  · injection h1 with _ _ h1; omega
  · injection h1 with _ _ h1; subst h1; unfold maxLen at h4; omega

theorem own_mono {w : World} {B B' s n : Nat} {e : TypeId} {v : Value} {xs : List Value} (h : w.ownsRow B e s v n xs) (hB : B' ≤ B) : w.ownsRow B' e s v n xs := by
  refine ⟨h.1, ?_⟩
  rcases h.2 with h1 | ⟨g, cap, cur, h1, h2, h3⟩
  · exact .inl h1
  · exact .inr ⟨g, cap, cur, h1, by omega, h3⟩
theorem ownI_mono {w : World} {B B' c : Nat} {A : Option Addr} {E : List Int} (h : OwI w B A c E) (hB : B' ≤ B) : OwI w B' A c E := own_mono h hB
theorem ownR_mono {w : World} {B B' c : Nat} {A : Option Addr} {E : List Rc} (h : OwR w B A c E) (hB : B' ≤ B) : OwR w B' A c E := own_mono h hB

set_option maxRecDepth 100000 in
set_option maxHeartbeats 16000000 in
theorem merge1 (A B : Option Addr) (c d : Nat) (a b : List Rc) (X Y : List Int) (g : FuncId) (kp : Bool → Bool → Bool) (w : World) (hA : Rs w A a) (hB : Rs w B b) (ra : IsReg a) (rb : IsReg b) (hX : Grid X Y) (ia : InR X Y a) (ib : InR X Y b)
    (hc : Kc g) (hg : Kp g kp) (hk : kp false false = false) :
    Calls Try.prog 103 #[.slice A a.length c, .slice B b.length d, .func (.func g) #[] #[]] w (RR w (MQ X Y a b kp)) := by
  obtain ⟨ga, ea⟩ := ra.bands
  obtain ⟨gb, eb⟩ := rb.bands
  have la : a.length ≤ 1000000 := by
    have h1 := rects_len ga.toWk (InR.bands ga (by rw [ea]; exact ia))
    rw [ea] at h1
    exact Nat.le_trans h1 (Nat.le_trans (Nat.mul_le_mul hX.y hX.x) (by omega))
  have lb : b.length ≤ 1000000 := by
    have h1 := rects_len gb.toWk (InR.bands gb (by rw [eb]; exact ib))
    rw [eb] at h1
    exact Nat.le_trans h1 (Nat.le_trans (Nat.mul_le_mul hX.y hX.x) (by omega))
  go_enter Try.func103, Try.ntmps103
  go_wp2_with fail
  refine (bandsOf1 A c a w hA la).mono ?_
  rintro e W1 ⟨A1, c1, p, rfl, op, hp, g1⟩
  go_wp2_with fail
  refine (bandsOf1 B d b W1 (hB.bl g1) lb).mono ?_
  rintro e W2 ⟨A2, c2, q, rfl, oq, hq, g2⟩
  obtain ⟨bp, cp⟩ := (op.bl g2).bs
  obtain ⟨bq, cq⟩ := oq.bs
  have mp := op.capmax
  have mq := oq.capmax
  rw [← hp] at ga ea
  rw [← hq] at gb eb
  have wp := ga.toWk
  have wq := gb.toWk
  have gia := InR.bands ga (by rw [ea]; exact ia)
  have gib := InR.bands gb (by rw [eb]; exact ib)
  have lp : p.length ≤ 1000 := by have := bands_len wp gia; rw [List.length_map] at this; exact Nat.le_trans this hX.y
  have lq : q.length ≤ 1000 := by have := bands_len wq gib; rw [List.length_map] at this; exact Nat.le_trans this hX.y
  have elp : ∀ r ∈ p.map BW.bn, r.E.length ≤ 1000000 := fun r hr => Nat.le_trans (inc_len _ _ (wp.ok r hr).2.1 (gia r hr).2.2) (Nat.le_trans hX.x (by omega))
  have elq : ∀ r ∈ q.map BW.bn, r.E.length ≤ 1000000 := fun r hr => Nat.le_trans (inc_len _ _ (wq.ok r hr).2.1 (gib r hr).2.2) (Nat.le_trans hX.x (by omega))
  have ilp : ∀ r ∈ p.map BW.bn, I64s r.E := fun r hr x hx => hX.i x ((gia r hr).2.2 x hx)
  have ilq : ∀ r ∈ q.map BW.bn, I64s r.E := fun r hr x hx => hX.i x ((gib r hr).2.2 x hx)
  have G2 : Bl w W2 := g1.trans g2
  clear oq op hA hB
  go_wp2_with fail
  refine (heights1 A1 A2 c1 c2 p q W2 bp bq (by omega) (by omega)).mono ?_
  rintro e W3 ⟨A3, c3, ys, rfl, oy, hy, g3⟩
  have iy := oy.is
  have lys : ys.length ≤ 4000 := by have := hy.len; rw [List.length_map, List.length_map] at this; omega
  have G3 := G2.trans g3
  have sz3 := G3.size
  have st := MInv.start hy hk wp wq
  replace st := Lib.hid st
  replace bp := bp.bl g3
  replace bq := bq.bl g3
  clear oy g1 g2 g3 G2
  go_wp2
  go_loopw [7, 8, 10, 11] (fun vp vq vo i wr => ∃ (k : Nat) (A4 A5 A6 : Option Addr) (c4 c5 c6 : Nat) (p' q' O : List BW), vp = .slice A4 p'.length c4 ∧ vq = .slice A5 q'.length c5 ∧ vo = .slice A6 O.length c6 ∧ i = .int .i64 k ∧
      Hid (MInv (p.map BW.bn) (q.map BW.bn) kp ys k (O.map BW.bn) (p'.map BW.bn) (q'.map BW.bn)) ∧ (k ≤ ys.length ∨ k = 1) ∧ 1 ≤ k ∧ Bs W3 A4 p' ∧ p'.length ≤ c4 ∧ c4 ≤ 9223372036854775807 ∧ Bs W3 A5 q' ∧ q'.length ≤ c5 ∧ c5 ≤ 9223372036854775807 ∧
      OwBs wr W3.heap.size A6 c6 O ∧ Bl W3 wr) (fun _ _ _ i _ => ys.length - (intOf i).toNat)
  case atStart => exact ⟨1, A1, A2, none, c1, c2, 0, p, q, [], rfl, rfl, rfl, rfl, st, .inr rfl, Nat.le_refl _, bp, cp, mp, bq, cq, mq, ⟨OwB.nil _ _, by simp⟩, Bl.refl _⟩
  case round =>
    obtain ⟨k, A4, A5, A6, c4, c5, c6, p', q', O, rfl, rfl, rfl, rfl, inv, hk1, hk2, bp', cp', mp', bq', cq', mq', ow, G⟩ := hrel
    by_cases hlt : k < ys.length
    · obtain ⟨m, rfl⟩ : ∃ m, k = m + 1 := ⟨k - 1, by omega⟩
      obtain ⟨y0, h0⟩ := list_at (show m < ys.length by omega)
      obtain ⟨y1, h1⟩ := list_at hlt
      obtain ⟨b0, o0, rfl, ry⟩ := iy.opened (by omega)
      have E0 := fun n os => (ry.bl ((G.drewN n).grow os)) m y0 h0
      have E1 := fun n os => (ry.bl ((G.drewN n).grow os)) (m + 1) y1 h1
      have hw1 : IntKind.i64.wrap (m : Int) = (m : Int) := IntWalk.i64_in _ (by omega)
      have hm1 : (m : Int) < (ys.length : Int) := by omega
      have hm2 : (m : Int) + 1 < (ys.length : Int) := by omega
      replace h0 := Lib.hid h0
      replace h1 := Lib.hid h1
      clear ry
      go_wp2
      refine wp_region_quiet_grown (by kernel_rfl) (by kernel_rfl) ?_
      repeat (first | go_big_quiet_step (fail) | quiet_step (fail))
      refine wpQuiet_nil ?_
      intro W4 g8
      replace g8 : Gr _ W4 := g8
      clear E0 E1 hw1
      have ow4 := ow.bl g8.bl
      have G4 := G.gr g8
      have bp4 := bp'.bl G4
      have bq4 := bq'.bl G4
      clear g8 ow G
      go_wp2_with fail
      refine (from2 A4 c4 p' y0 W4 bp4 cp' mp').mono ?_
      rintro e w' ⟨A7, c7, p7, rfl, cp7, cc7, kp7, hp7, rfl⟩
      replace hp7 := Lib.hid hp7
      go_wp2_with fail
      refine (from2 A5 c5 q' y0 W4 bq4 cq' mq').mono ?_
      rintro e w' ⟨A8, c8, q8, rfl, cq8, cc8, kq8, hq8, rfl⟩
      have inv' := inv.out
      have hsp : (p7.map BW.bn).Sublist (p.map BW.bn) := by rw [hp7.out]; exact (fromL_sub _ _).trans inv'.sp
      have hsq : (q8.map BW.bn).Sublist (q.map BW.bn) := by rw [hq8]; exact (fromL_sub _ _).trans inv'.sq
      have ok7 := edgesL_ok (y := y0) (wp.sub hsp)
      have ok8 := edgesL_ok (y := y0) (wq.sub hsq)
      have mem7 := edgesL_mem (p := p7.map BW.bn) (y := y0)
      have mem8 := edgesL_mem (p := q8.map BW.bn) (y := y0)
      have len7 : (edgesL (p7.map BW.bn) y0).length ≤ 1000000 := by
        rcases mem7 with h | ⟨r, h, h'⟩
        · rw [h]; simp
        · rw [h']; exact elp r (hsp.mem h)
      have len8 : (edgesL (q8.map BW.bn) y0).length ≤ 1000000 := by
        rcases mem8 with h | ⟨r, h, h'⟩
        · rw [h]; simp
        · rw [h']; exact elq r (hsq.mem h)
      have i7 : I64s (edgesL (p7.map BW.bn) y0) := by
        rcases mem7 with h | ⟨r, h, h'⟩
        · rw [h]; intro x hx; simp at hx
        · rw [h']; exact ilp r (hsp.mem h)
      have i8 : I64s (edgesL (q8.map BW.bn) y0) := by
        rcases mem8 with h | ⟨r, h, h'⟩
        · rw [h]; intro x hx; simp at hx
        · rw [h']; exact ilq r (hsq.mem h)
      have lO : O.length ≤ 4000 := by have := inv'.len; rw [List.length_map] at this; omega
      replace hq8 := Lib.hid hq8
      have elO : ∀ r ∈ O, r.E.length ≤ 9000000 := fun r hr => Nat.le_trans (inv'.el r.bn (List.mem_map_of_mem hr)) (by omega)
      clear inv' mem7 mem8
      go_wp2_with fail
      refine (edgesAt1 A7 c7 p7 y0 W4 (kp7 W4 bp4)).mono ?_
      rintro e w' ⟨A9, c9, e7, rfl, _, is7, he7, rfl⟩
      rw [← he7] at ok7 len7 i7
      replace he7 := Lib.hid he7
      go_wp2_with fail
      refine (edgesAt1 A8 c8 q8 y0 W4 (kq8 W4 bq4)).mono ?_
      rintro e w' ⟨A10, c10, e8, rfl, _, is8, he8, rfl⟩
      rw [← he8] at ok8 len8 i8
      replace he8 := Lib.hid he8
      go_wp2_with fail
      refine (mergeEdges1 A9 A10 c9 c10 e7 e8 g kp W4 is7 is8 ok7.1 ok8.1 ok7.2 ok8.2 len7 len8 i7 i8 hc hg hk).mono ?_
      rintro e W5 ⟨A11, c11, ne, rfl, own, hm, g5⟩
      have hml : ne.length ≤ 9000000 := by have := hm.len; omega
      replace hm := Lib.hid hm
      have sz4 := G4.size
      have ow5 := ow4.bl g5
      have own5 : OwI W5 W3.heap.size A11 c11 ne := ownI_mono own sz4
      have G5 := G4.trans g5
      have sz5 := G5.size
      go_wp2_with fail
      refine (add1 A6 c6 O ⟨y0, y1, ne, A11, c11⟩ W5 W3.heap.size ow5 own5 sz5 (by omega) elO hml).mono ?_
      rintro e W6 ⟨A12, c12, O6, rfl, ow6, hO6, b6⟩
      go_wp2
      go_roundw
      case rel =>
        refine ⟨m + 1 + 1, A7, A8, A12, c7, c8, c12, p7, q8, O6, rfl, rfl, rfl, by go_num, Lib.hid ?_, .inl (by omega), by omega, kp7 W3 bp', cp7, by omega, kq8 W3 bq', cq8, by omega, ow6, G5.trans2 b6 sz5⟩
        have := inv.out.step hy wp wq (y0 := y0) (y1 := y1) h0.out h1.out elp elq (e := ne) (by rw [← hp7.out, ← hq8.out, ← he7.out, ← he8.out]; exact hm.out)
        rw [← hp7.out, ← hq8.out] at this
        rw [hO6]
        exact this
      case measure => simp [intOf]; omega
    · have fin := inv.out.done hy hk (by omega) hk1
      have wk := inv.out.wk
      have hin : InB X Y (O.map BW.bn) := fun r hr => by
        obtain ⟨q1, q2, q3⟩ := inv.out.ed r hr
        refine ⟨?_, ?_, fun e he => ?_⟩
        · obtain ⟨b', h1, h2⟩ := (hy.mem _).1 q2
          rcases h1 with h1 | h1
          · rcases h2 with h2 | h2 <;> rw [h2]; exact (gia b' h1).1; exact (gia b' h1).2.1
          · rcases h2 with h2 | h2 <;> rw [h2]; exact (gib b' h1).1; exact (gib b' h1).2.1
        · obtain ⟨b', h1, h2⟩ := (hy.mem _).1 q3
          rcases h1 with h1 | h1
          · rcases h2 with h2 | h2 <;> rw [h2]; exact (gia b' h1).1; exact (gia b' h1).2.1
          · rcases h2 with h2 | h2 <;> rw [h2]; exact (gib b' h1).1; exact (gib b' h1).2.1
        · obtain ⟨b', h1, h2⟩ := q1 e he
          rcases h1 with h1 | h1
          · exact (gia b' h1).2.2 e h2
          · exact (gib b' h1).2.2 e h2
      have lR : (rectsL (O.map BW.bn)).length ≤ 1000000 := Nat.le_trans (rects_len wk hin) (Nat.le_trans (Nat.mul_le_mul hX.y hX.x) (by omega))
      have lO : O.length ≤ 1000000 := by
        have h1 := bands_len wk hin
        have h2 := hX.y
        rw [List.length_map] at h1
        omega
      have eO : ∀ r ∈ O, r.E.length % 2 = 0 ∧ r.E.length ≤ 9000000 := fun r hr => ⟨(wk.ok r.bn (List.mem_map_of_mem hr)).2.2, Nat.le_trans (inv.out.el r.bn (List.mem_map_of_mem hr)) (by omega)⟩
      have hfin : MQ X Y a b kp (rectsL (O.map BW.bn)) := by
        refine ⟨wk.reg, hin.rects, fun x y => ?_⟩
        rw [rects_hasL wk, fin, ← rects_hasL wp, ← rects_hasL wq, ea, eb]
      replace hfin := Lib.hid hfin
      clear fin wk hin
      go_wp2_with fail
      refine (rectsOf1 A6 c6 O wr ow.bs.1 lO eO lR).mono ?_
      rintro e W4 ⟨A7, c7, L, rfl, owL, hL, g4⟩
      replace hL := Lib.hid hL
      go_wp2
      go_ret
      have sz := G.size
      exact ⟨A7, c7, L, rfl, ownR_mono owL (by omega), by rw [hL.out]; exact hfin.out, (G3.trans G).trans g4⟩

end Go.Proofs.Ytafceieenhogpaa
namespace Go.Proofs.Ytafceieenhogpaa

/-- All numbers of the rectangles that have points, and no others. -/
structure Axes (a b : List Rc) (xs ys : List Int) : Prop where
  xi : Inc xs
  yi : Inc ys
  xm : ∀ x, x ∈ xs ↔ ∃ r ∈ a ++ b, emptyB r.a r.b r.c r.d = false ∧ (x = r.a ∨ x = r.c)
  ym : ∀ y, y ∈ ys ↔ ∃ r ∈ a ++ b, emptyB r.a r.b r.c r.d = false ∧ (y = r.b ∨ y = r.d)
theorem not_empty {r : Rc} (h : emptyB r.a r.b r.c r.d = false) : r.a < r.c ∧ r.b < r.d := by
  unfold emptyB at h; simp at h; omega
theorem has_not_empty {r : Rc} {x y : Int} (h : hasB r.a r.b r.c r.d x y = true) : emptyB r.a r.b r.c r.d = false := by
  unfold hasB at h; unfold emptyB; simp at *; omega
theorem hasL_false {L : List Rc} {x y : Int} (h : ∀ r ∈ L, hasB r.a r.b r.c r.d x y = false) : hasL L x y = false := by
  unfold hasL; rw [List.any_eq_false]; intro r hr; rw [h r hr]; simp
theorem hasL_same {L : List Rc} {x y x' y' : Int} (h : ∀ r ∈ L, hasB r.a r.b r.c r.d x y = hasB r.a r.b r.c r.d x' y') : hasL L x y = hasL L x' y' := by
  induction L with
  | nil => rfl
  | cons r l ih =>
    unfold hasL at *
    rw [List.any_cons, List.any_cons, h r (by simp), ih fun q hq => h q (by simp [hq])]
theorem Axes.cols {a b : List Rc} {xs ys : List Int} (h : Axes a b xs ys) {kp : Bool → Bool → Bool} (hk : kp false false = false) (y : Int) : Cols (fun x => kp (hasL a x y) (hasL b x y)) xs := by
  have one : ∀ r ∈ a ++ b, ∀ x, hasB r.a r.b r.c r.d x y = true → r.a ∈ xs ∧ r.c ∈ xs ∧ r.a ≤ x ∧ x < r.c := by
    intro r hr x hx
    have he := has_not_empty hx
    refine ⟨(h.xm _).2 ⟨r, hr, he, .inl rfl⟩, (h.xm _).2 ⟨r, hr, he, .inr rfl⟩, ?_⟩
    unfold hasB at hx; simp at hx; omega
  refine ⟨h.xi, fun x hx => ?_, fun x hx => ?_, fun k x0 x1 x h0 h1 hl hr => ?_⟩
  · have q : ∀ r ∈ a ++ b, hasB r.a r.b r.c r.d x y = false := fun r hr => by
      cases hh : hasB r.a r.b r.c r.d x y with
      | false => rfl
      | true => obtain ⟨q1, _, q3, _⟩ := one r hr x hh; have := hx _ q1; omega
    simp only [hasL_false (L := a) fun r hr => q r (by simp [hr]), hasL_false (L := b) fun r hr => q r (by simp [hr]), hk]
  · have q : ∀ r ∈ a ++ b, hasB r.a r.b r.c r.d x y = false := fun r hr => by
      cases hh : hasB r.a r.b r.c r.d x y with
      | false => rfl
      | true => obtain ⟨_, q2, _, q4⟩ := one r hr x hh; have := hx _ q2; omega
    simp only [hasL_false (L := a) fun r hr => q r (by simp [hr]), hasL_false (L := b) fun r hr => q r (by simp [hr]), hk]
  · have q : ∀ r ∈ a ++ b, hasB r.a r.b r.c r.d x y = hasB r.a r.b r.c r.d x0 y := fun r hr' => by
      by_cases he : emptyB r.a r.b r.c r.d = true
      · unfold emptyB at he; unfold hasB; simp at *; rw [Bool.eq_iff_iff]; simp; omega
      · simp only [Bool.not_eq_true] at he
        have n1 := fun hl' => inc_next h.xi h0 h1 ((h.xm r.a).2 ⟨r, hr', he, .inl rfl⟩) hl'
        have n2 := fun hl' => inc_next h.xi h0 h1 ((h.xm r.c).2 ⟨r, hr', he, .inr rfl⟩) hl'
        unfold hasB
        rw [decide_eq_decide]
        constructor
        · rintro ⟨g1, g2, g3⟩
          refine ⟨?_, ?_, g3⟩
          · rcases Int.lt_or_le x0 r.a with g | g
            · have := n1 g; omega
            · exact g
          · omega
        · rintro ⟨g1, g2, g3⟩
          refine ⟨by omega, ?_, g3⟩
          have := n2 g2; omega
    simp only [hasL_same (L := a) fun r hr => q r (by simp [hr]), hasL_same (L := b) fun r hr => q r (by simp [hr])]

/-- The rows so far: those that are done, and the last one. -/
structure OInv (a b : List Rc) (kp : Bool → Bool → Bool) (ys xs : List Int) (i : Nat) (Bs : List Bn) (t : Option Bn) : Prop where
  wk : Wk (Bs ++ t.toList)
  top : ∀ y0, ys[i]? = some y0 → ∀ c ∈ Bs ++ t.toList, c.y1 ≤ y0
  last : ∀ c, t = some c → c.E ≠ [] ∧ ys[i]? = some c.y1
  par : ∀ y0, ys[i]? = some y0 → ∀ y, y < y0 → ∀ x, inE (rowE (Bs ++ t.toList) y) x = kp (hasL a x y) (hasL b x y)
  ed : ∀ c ∈ Bs ++ t.toList, (∀ e ∈ c.E, e ∈ xs) ∧ c.y0 ∈ ys ∧ c.y1 ∈ ys
  gap : t = none → ∀ y0, ys[i]? = some y0 → ∀ c ∈ Bs, c.y1 < y0
theorem has_low {a b : List Rc} {xs ys : List Int} (h : Axes a b xs ys) {y : Int} (hy : (∀ z ∈ ys, y < z) ∨ (∀ z ∈ ys, z ≤ y)) (x : Int) : hasL a x y = false ∧ hasL b x y = false := by
  have q : ∀ r ∈ a ++ b, hasB r.a r.b r.c r.d x y = false := fun r hr => by
    cases hh : hasB r.a r.b r.c r.d x y with
    | false => rfl
    | true =>
      have he := has_not_empty hh
      have m1 := (h.ym r.b).2 ⟨r, hr, he, .inl rfl⟩
      have m2 := (h.ym r.d).2 ⟨r, hr, he, .inr rfl⟩
      unfold hasB at hh; simp at hh
      rcases hy with hy | hy
      · have := hy _ m1; omega
      · have := hy _ m2; omega
  exact ⟨hasL_false fun r hr => q r (by simp [hr]), hasL_false fun r hr => q r (by simp [hr])⟩
theorem OInv.start {a b : List Rc} {kp : Bool → Bool → Bool} {xs ys : List Int} (h : Axes a b xs ys) (hk : kp false false = false) : OInv a b kp ys xs 0 [] none := by
  refine ⟨Wk.nil, by simp, by simp, fun y0 h0 y hy x => ?_, by simp, by simp⟩
  obtain ⟨q1, q2⟩ := has_low h (y := y) (.inl fun z hz => by have := inc_first h.yi h0 hz; omega) x
  rw [q1, q2, hk]; rfl
theorem row_same {a b : List Rc} {xs ys : List Int} (h : Axes a b xs ys) {kp : Bool → Bool → Bool} {i : Nat} {y0 y1 y : Int} (h0 : ys[i]? = some y0) (h1 : ys[i + 1]? = some y1) (hl : y0 ≤ y) (hr : y < y1) (x : Int) : kp (hasL a x y) (hasL b x y) = kp (hasL a x y0) (hasL b x y0) := by
  have q : ∀ r ∈ a ++ b, hasB r.a r.b r.c r.d x y = hasB r.a r.b r.c r.d x y0 := fun r hr' => by
    by_cases he : emptyB r.a r.b r.c r.d = true
    · unfold emptyB at he; unfold hasB; simp at *; rw [Bool.eq_iff_iff]; simp; omega
    · simp only [Bool.not_eq_true] at he
      have n1 := fun hl' => inc_next h.yi h0 h1 ((h.ym r.b).2 ⟨r, hr', he, .inl rfl⟩) hl'
      have n2 := fun hl' => inc_next h.yi h0 h1 ((h.ym r.d).2 ⟨r, hr', he, .inr rfl⟩) hl'
      unfold hasB
      rw [decide_eq_decide]
      constructor
      · rintro ⟨g1, g2, g3, g4⟩
        refine ⟨g1, g2, ?_, by omega⟩
        rcases Int.lt_or_le y0 r.b with g | g
        · have := n1 g; omega
        · exact g
      · rintro ⟨g1, g2, g3, g4⟩
        refine ⟨g1, g2, by omega, ?_⟩
        have := n2 g4; omega
  rw [hasL_same (L := a) fun r hr => q r (by simp [hr]), hasL_same (L := b) fun r hr => q r (by simp [hr])]
/-- One more row: it goes on the last one, or stands below it, or is none. -/
theorem OInv.step {a b : List Rc} {kp : Bool → Bool → Bool} {xs ys : List Int} {i : Nat} {Bs : List Bn} {t : Option Bn} (h : OInv a b kp ys xs i Bs t) (hx : Axes a b xs ys) {y0 y1 : Int} (h0 : ys[i]? = some y0) (h1 : ys[i + 1]? = some y1)
    {E : List Int} (hE : Inc E ∧ E.length % 2 = 0) (hs : ∀ e ∈ E, e ∈ xs) (hp : ∀ x, inE E x = kp (hasL a x y0) (hasL b x y0)) :
    (∀ c, t = some c → c.E = E → OInv a b kp ys xs (i + 1) Bs (some ⟨c.y0, y1, c.E⟩)) ∧
    ((∀ c, t = some c → c.E ≠ E) → OInv a b kp ys xs (i + 1) (Bs ++ t.toList) (if E = [] then none else some ⟨y0, y1, E⟩)) := by
  have hlt := inc_lt hx.yi h0 h1
  have ok : (⟨y0, y1, E⟩ : Bn).ok := ⟨hlt, hE⟩
  obtain ⟨a1, a2, a3, _, _⟩ := addL_wk h.wk ok (h.top y0 h0)
  have tops : ∀ c ∈ Bs ++ t.toList, c.y1 ≤ y1 := fun c hc => by have := h.top y0 h0 c hc; omega
  have parE : ∀ (O : List Bn), (∀ y, rowE O y = if y0 ≤ y ∧ y < y1 then E else rowE (Bs ++ t.toList) y) → ∀ y, y < y1 → ∀ x, inE (rowE O y) x = kp (hasL a x y) (hasL b x y) := by
    intro O hO y hy x
    rw [hO]
    by_cases h2 : y0 ≤ y
    · rw [if_pos ⟨h2, hy⟩, hp]; exact (row_same hx h0 h1 h2 hy x).symm
    · rw [if_neg (by omega)]; exact h.par y0 h0 y (by omega) x
  constructor
  · intro c hc hcE
    subst hc
    have hl := h.last c rfl
    rw [h0] at hl
    have hy1 : c.y1 = y0 := by have := hl.2; injection this with this; exact this.symm
    have hadd : addL (Bs ++ [c]) ⟨y0, y1, E⟩ = Bs ++ [⟨c.y0, y1, c.E⟩] := by
      rw [addL_snoc, if_pos (by simp [goesB, hy1, hcE])]
    simp only [Option.toList_some] at a1 a2 a3 parE ⊢
    rw [hadd] at a1 a2 a3
    refine ⟨a1, fun z hz d hd => ?_, fun d hd => ?_, fun z hz => ?_, fun d hd => ?_, by simp⟩
    · rw [h1] at hz; injection hz with hz; subst hz; exact a3 d hd
    · injection hd with hd; subst hd; exact ⟨hl.1, h1⟩
    · rw [h1] at hz; injection hz with hz; subst hz
      exact parE _ a2
    · simp only [Option.toList_some] at hd
      rw [List.mem_append, List.mem_singleton] at hd
      rcases hd with hd | rfl
      · exact h.ed d (by simp [hd])
      · obtain ⟨q1, q2, q3⟩ := h.ed c (by simp)
        exact ⟨q1, q2, get_mem h1⟩
  · intro hne
    by_cases hE0 : E = []
    · subst hE0
      rw [if_pos rfl]
      refine ⟨?_, ?_, by simp, ?_, ?_, ?_⟩
      · simpa using h.wk
      · intro z hz d hd
        rw [h1] at hz; injection hz with hz; subst hz
        exact tops d (by simpa using hd)
      · intro z hz
        rw [h1] at hz; injection hz with hz; subst hz
        simp only [Option.toList_none, List.append_nil]
        refine parE _ fun y => ?_
        by_cases h2 : y0 ≤ y ∧ y < y1
        · rw [if_pos h2]; exact rowE_none fun c hc => by have := h.top y0 h0 c hc; right; omega
        · rw [if_neg h2]
      · intro d hd; exact h.ed d (by simpa using hd)
      · intro _ z hz c hc
        rw [h1] at hz; injection hz with hz; subst hz
        have := h.top y0 h0 c hc; omega
    · rw [if_neg hE0]
      have hadd : addL (Bs ++ t.toList) ⟨y0, y1, E⟩ = Bs ++ t.toList ++ [⟨y0, y1, E⟩] := by
        cases t with
        | some c =>
          rw [Option.toList_some, addL_snoc, if_neg]
          simp only [goesB, decide_eq_true_eq]
          exact fun hh => hne c rfl hh.2
        | none =>
          rw [Option.toList_none, List.append_nil]
          rcases List.eq_nil_or_concat Bs with hB | ⟨l, c, hB⟩
          · rw [hB]; rfl
          · rw [List.concat_eq_append] at hB
            rw [hB, addL_snoc, if_neg]
            simp only [goesB, decide_eq_true_eq]
            rintro ⟨g1, _⟩
            have := h.gap rfl y0 h0 c (by rw [hB]; simp)
            omega
      rw [hadd] at a1 a2 a3
      refine ⟨a1, fun z hz d hd => ?_, fun d hd => ?_, fun z hz => ?_, fun d hd => ?_, by simp⟩
      · rw [h1] at hz; injection hz with hz; subst hz; exact a3 d hd
      · injection hd with hd; subst hd; exact ⟨hE0, h1⟩
      · rw [h1] at hz; injection hz with hz; subst hz
        exact parE _ a2
      · simp only [Option.toList_some] at hd
        rw [List.mem_append, List.mem_singleton] at hd
        rcases hd with hd | rfl
        · exact h.ed d hd
        · exact ⟨hs, get_mem h0, get_mem h1⟩
theorem OInv.done {a b : List Rc} {kp : Bool → Bool → Bool} {xs ys : List Int} {i : Nat} {Bs : List Bn} {t : Option Bn} (h : OInv a b kp ys xs i Bs t) (hx : Axes a b xs ys) (hk : kp false false = false) (hi : i + 1 = ys.length ∨ ys = []) :
    ∀ x y, hasL (rectsL (Bs ++ t.toList)) x y = kp (hasL a x y) (hasL b x y) := by
  intro x y
  rw [rects_hasL h.wk]
  rcases hi with hi | hi
  · obtain ⟨y0, h0⟩ := list_at (show i < ys.length by omega)
    by_cases hy : y < y0
    · exact h.par y0 h0 y hy x
    · rw [rowE_none fun c hc => by have := h.top y0 h0 c hc; right; omega]
      obtain ⟨q1, q2⟩ := has_low hx (y := y) (.inr fun z hz => by have := inc_last hx.yi h0 hi hz; omega) x
      rw [q1, q2, hk]; rfl
  · have hn : Bs ++ t.toList = [] := by
      cases hB : Bs ++ t.toList with
      | nil => rfl
      | cons c l =>
        have := (h.ed c (by rw [hB]; simp)).2.1
        rw [hi] at this; simp at this
    rw [hn]
    obtain ⟨q1, q2⟩ := has_low hx (y := y) (.inl (by rw [hi]; simp)) x
    rw [q1, q2, hk]; rfl

end Go.Proofs.Ytafceieenhogpaa
namespace Go.Proofs.Ytafceieenhogpaa

structure Axk (l : List Rc) (k : Nat) (xs ys : List Int) : Prop where
  xi : Inc xs
  yi : Inc ys
  xm : ∀ x, x ∈ xs ↔ ∃ r ∈ l.take k, emptyB r.a r.b r.c r.d = false ∧ (x = r.a ∨ x = r.c)
  ym : ∀ y, y ∈ ys ↔ ∃ r ∈ l.take k, emptyB r.a r.b r.c r.d = false ∧ (y = r.b ∨ y = r.d)
  xl : xs.length ≤ 2 * k
  yl : ys.length ≤ 2 * k
theorem Axk.start (l : List Rc) : Axk l 0 [] [] := ⟨List.Pairwise.nil, List.Pairwise.nil, by simp, by simp, by simp, by simp⟩
theorem Axk.skip {l : List Rc} {k : Nat} {xs ys : List Int} (h : Axk l k xs ys) {r : Rc} (hr : l[k]? = some r) (he : emptyB r.a r.b r.c r.d = true) : Axk l (k + 1) xs ys := by
  have q : ∀ (P : Rc → Prop), (∃ s ∈ l.take (k + 1), emptyB s.a s.b s.c s.d = false ∧ P s) ↔ ∃ s ∈ l.take k, emptyB s.a s.b s.c s.d = false ∧ P s := by
    intro P
    rw [take_more hr]
    constructor
    · rintro ⟨s, h1, h2, h3⟩
      rw [List.mem_append, List.mem_singleton] at h1
      rcases h1 with h1 | rfl
      · exact ⟨s, h1, h2, h3⟩
      · rw [he] at h2; cases h2
    · rintro ⟨s, h1, h2, h3⟩
      exact ⟨s, List.mem_append.2 (.inl h1), h2, h3⟩
  exact ⟨h.xi, h.yi, fun x => by rw [h.xm, q], fun y => by rw [h.ym, q], by have := h.xl; omega, by have := h.yl; omega⟩
theorem Axk.step {l : List Rc} {k : Nat} {xs ys x2 x3 y2 y3 : List Int} (h : Axk l k xs ys) {r : Rc} (hr : l[k]? = some r) (he : emptyB r.a r.b r.c r.d = false) (a1 : Adds xs r.a x2) (a2 : Adds x2 r.c x3) (b1 : Adds ys r.b y2) (b2 : Adds y2 r.d y3) : Axk l (k + 1) x3 y3 := by
  have q : ∀ (P : Rc → Prop), (∃ s ∈ l.take (k + 1), emptyB s.a s.b s.c s.d = false ∧ P s) ↔ (∃ s ∈ l.take k, emptyB s.a s.b s.c s.d = false ∧ P s) ∨ P r := by
    intro P
    rw [take_more hr]
    constructor
    · rintro ⟨s, h1, h2, h3⟩
      rw [List.mem_append, List.mem_singleton] at h1
      rcases h1 with h1 | rfl
      · exact .inl ⟨s, h1, h2, h3⟩
      · exact .inr h3
    · rintro (⟨s, h1, h2, h3⟩ | h3)
      · exact ⟨s, List.mem_append.2 (.inl h1), h2, h3⟩
      · exact ⟨r, by simp, he, h3⟩
  refine ⟨a2.inc, b2.inc, fun x => ?_, fun y => ?_, ?_, ?_⟩
  · rw [a2.mem, a1.mem, h.xm, q, or_assoc]
  · rw [b2.mem, b1.mem, h.ym, q, or_assoc]
  · have := a1.len; have := a2.len; have := h.xl; omega
  · have := b1.len; have := b2.len; have := h.yl; omega
theorem Axk.axes {a b : List Rc} {xs ys : List Int} (h : Axk (a ++ b) (a.length + b.length) xs ys) : Axes a b xs ys := by
  have e : (a ++ b).take (a.length + b.length) = a ++ b := List.take_of_length_le (by simp)
  have x := h.xm
  have y := h.ym
  rw [e] at x y
  exact ⟨h.xi, h.yi, x, y⟩

theorem bandE_sides (y0 y1 y0' y1' : Int) : ∀ (E F : List Int), E.length % 2 = 0 → F.length % 2 = 0 → (bandE y0 y1 E).map (fun r => (r.a, r.c)) = (bandE y0' y1' F).map (fun r => (r.a, r.c)) → E = F
  | [], [], _, _, _ => rfl
  | [], [x], _, h, _ => by simp at h
  | [], x :: z :: F, _, _, h => by simp [bandE] at h
  | [x], F, h, _, _ => by simp at h
  | x :: z :: E, [], _, _, h => by simp [bandE] at h
  | x :: z :: E, [u], _, h, _ => by simp at h
  | x :: z :: E, u :: v :: F, h1, h2, h => by
    unfold bandE at h
    rw [List.map_cons, List.map_cons] at h
    injection h with h3 h4
    injection h3 with h5 h6
    simp only at h5 h6
    subst h5 h6
    rw [bandE_sides y0 y1 y0' y1' E F (by simp at h1; omega) (by simp at h2; omega) h4]
theorem spans_band {y0 y1 y0' y1' : Int} {E F : List Int} (hE : E.length % 2 = 0) (hF : F.length % 2 = 0) : spansB (bandE y0 y1 E) (bandE y0' y1' F) = decide (E = F) := by
  unfold spansB
  rw [decide_eq_decide]
  constructor
  · exact bandE_sides _ _ _ _ E F hE hF
  · rintro rfl
    induction E using bandE.induct with
    | case1 a b E ih =>
      show (a, b) :: _ = (a, b) :: _
      rw [ih (by simp at hE; omega) (by simp at hE; omega)]
    | case2 E h =>
      cases E with
      | nil => rfl
      | cons a E =>
        cases E with
        | nil => simp at hE
        | cons b E => exact absurd rfl (h a b E)

end Go.Proofs.Ytafceieenhogpaa
namespace Go.Proofs.Ytafceieenhogpaa
open Go.RowKit Go.Sort

theorem union1 (A B : Option Addr) (c d : Nat) (a b : List Rc) (X Y : List Int) (w : World) (hA : Rs w A a) (hB : Rs w B b) (ra : IsReg a) (rb : IsReg b) (hX : Grid X Y) (ia : InR X Y a) (ib : InR X Y b) :
    Calls Try.prog 88 #[.slice A a.length c, .slice B b.length d] w (RR w (MQ X Y a b (fun a b => a || b))) := by
  go_enter Try.func88, Try.ntmps88
  go_wp2_with fail
  refine (merge1 A B c d a b X Y _ _ w hA hB ra rb hX ia ib kcOr kpOr rfl).mono ?_
  rintro e W ⟨A1, c1, L, rfl, o1, q1, g1⟩
  go_wp2
  go_ret
  exact ⟨A1, c1, L, rfl, o1, q1, g1⟩
/-- What Of tells of any rectangles. -/
structure OfQ (X Y : List Int) (L R : List Rc) : Prop where
  reg : IsReg R
  inr : InR X Y R
  has : ∀ x y, hasL R x y = hasL L x y
def InNe (X Y : List Int) (L : List Rc) : Prop := ∀ r ∈ L, emptyB r.a r.b r.c r.d = false → r.a ∈ X ∧ r.c ∈ X ∧ r.b ∈ Y ∧ r.d ∈ Y
theorem InR.ne {X Y : List Int} {L : List Rc} (h : InR X Y L) : InNe X Y L := fun r hr _ => h r hr
def neL (L : List Rc) : List Rc := L.filter fun r => !emptyB r.a r.b r.c r.d
theorem neL_has (L : List Rc) (x y : Int) : hasL (neL L) x y = hasL L x y := by
  induction L with
  | nil => rfl
  | cons r l ih =>
    unfold neL at *
    rw [List.filter_cons]
    by_cases he : emptyB r.a r.b r.c r.d = true
    · rw [he]
      have : hasB r.a r.b r.c r.d x y = false := by
        unfold emptyB at he; unfold hasB; simp at *; omega
      unfold hasL at *
      simp only [Bool.not_true, Bool.false_eq_true, if_false]
      rw [ih, List.any_cons, this, Bool.false_or]
    · simp only [Bool.not_eq_true] at he
      rw [he]
      unfold hasL at *
      simp only [Bool.not_false, if_true]
      rw [List.any_cons, List.any_cons, ih]
theorem one_reg {r : Rc} (h : emptyB r.a r.b r.c r.d = false) : IsReg [r] := by
  have hne : r.a < r.c ∧ r.b < r.d := by unfold emptyB at h; simp at h; omega
  refine ⟨[⟨r.b, r.d, [r.a, r.c]⟩], ⟨⟨?_, by simp⟩, by simp⟩, rfl⟩
  intro b hb
  rw [List.mem_singleton] at hb
  subst hb
  exact ⟨hne.2, by unfold Inc; simp; exact hne.1, by simp⟩
theorem neL_reg {L : List Rc} (h : L.length ≤ 1) : IsReg (neL L) := by
  match L, h with
  | [], _ => exact ⟨[], ⟨Wk.nil, by simp⟩, rfl⟩
  | [r], _ =>
    unfold neL
    rw [List.filter_cons]
    by_cases he : emptyB r.a r.b r.c r.d = true
    · rw [he]; exact ⟨[], ⟨Wk.nil, by simp⟩, rfl⟩
    · simp only [Bool.not_eq_true] at he
      rw [he]; exact one_reg he
theorem neL_ofq {X Y : List Int} {L : List Rc} (h : L.length ≤ 1) (hi : InNe X Y L) : OfQ X Y L (neL L) :=
  ⟨neL_reg h, fun r hr => hi r (List.mem_filter.1 hr).1 (by have := (List.mem_filter.1 hr).2; simpa using this), neL_has L⟩
theorem hasL_halves (L : List Rc) (h : Nat) (x y : Int) : hasL L x y = (hasL (L.take h) x y || hasL (L.drop h) x y) := by
  conv => lhs; rw [← List.take_append_drop h L]
  unfold hasL; rw [List.any_append]
theorem halves_ofq {X Y : List Int} {L R1 R2 R : List Rc} {h : Nat} (h1 : OfQ X Y (L.take h) R1) (h2 : OfQ X Y (L.drop h) R2) (m : MQ X Y R1 R2 (fun a b => a || b) R) : OfQ X Y L R :=
  ⟨m.reg, m.inr, fun x y => by rw [m.has, h1.has, h2.has, hasL_halves L h]⟩
theorem RowR.half {w : World} {b off : Nat} {L : List Rc} (hr : RowR w b off L) (h : Nat) : RowR w b off (L.take h) ∧ RowR w b (off + h * 4) (L.drop h) := by
  refine ⟨fun k r hk => hr k r ?_, fun k r hk => ?_⟩
  · rw [List.getElem?_take] at hk
    split at hk
    · exact hk
    · cases hk
  · rw [List.getElem?_drop] at hk
    have := hr (h + k) r hk
    rw [show off + (h + k) * 4 = off + h * 4 + k * 4 from by omega] at this
    exact this

theorem neL_more {L : List Rc} {k : Nat} {r : Rc} (h : L[k]? = some r) : neL (L.take (k + 1)) = if emptyB r.a r.b r.c r.d = true then neL (L.take k) else neL (L.take k) ++ [r] := by
  rw [take_more h]
  unfold neL
  rw [List.filter_append]
  by_cases he : emptyB r.a r.b r.c r.d = true
  · rw [if_pos he]; simp [he]
  · rw [if_neg he]; simp only [Bool.not_eq_true] at he; simp [he]

set_option maxHeartbeats 8000000 in
theorem of0 (A : Option Addr) (c : Nat) (L : List Rc) (X Y : List Int) (w : World) (h1 : L.length ≤ 1) (hA : Rs w A L) (hi : InNe X Y L) :
    Calls Try.prog 52 #[.slice A L.length c] w (RR w (OfQ X Y L)) := by
  have fin := Lib.hid (neL_ofq (X := X) (Y := Y) h1 hi)
  obtain ⟨n, hn⟩ : ∃ n, n = L.length := ⟨_, rfl⟩
  rw [← hn] at h1 ⊢
  replace hn := Lib.hid hn
  have hd : decide ((1 : Int) < (n : Int)) = false := by simp; omega
  go_enter Try.func52, Try.ntmps52
  go_wp2
  go_loopw [4, 24] (fun v i wr => ∃ (k : Nat) (A' : Option Addr) (c' : Nat) (O : List Rc), k ≤ n ∧ v = .slice A' O.length c' ∧ i = .int .i64 k ∧ Hid (O = neL (L.take k)) ∧ O.length ≤ k ∧ OwR wr w.heap.size A' c' O ∧ Bl w wr) (fun _ i _ => n - (intOf i).toNat)
  case atStart => exact ⟨0, none, 0, [], Nat.zero_le _, rfl, rfl, Lib.hid rfl, by simp, OwR.nil _ _, Bl.refl _⟩
  case round =>
    obtain ⟨k, A', c', O, hk, rfl, rfl, hO, hOl, own, G⟩ := hrel
    by_cases hlt : k < n
    · obtain ⟨⟨ra, rb, rc, rd⟩, hr⟩ := list_at (show k < L.length by rw [← hn.out]; exact hlt)
      obtain ⟨b, off, rfl, hrow⟩ := hA.opened (by have := hn.out; omega)
      obtain ⟨e1, e2, e3, e4⟩ := (hrow.bl G) k _ hr
      dsimp only at e1 e2 e3 e4
      have c1 := empty1 ra rb rc rd
      have hm := neL_more hr
      rw [← hO.out] at hm
      dsimp only at hm
      have szo := G.size
      have lb := World.block_lt_of_cell? _ _ e1
      have own1 := own.bl ((Bl.refl wr).alloc (.cells #[.int .i64 ra, .int .i64 rb, .int .i64 rc, .int .i64 rd] 24))
      have bx := At.new wr #[.int .i64 ra, .int .i64 rb, .int .i64 rc, .int .i64 rd] 24
      have G1 := G.alloc (.cells #[.int .i64 ra, .int .i64 rb, .int .i64 rc, .int .i64 rd] 24)
      clear hr
      by_cases he : emptyB ra rb rc rd = true
      · rw [if_pos he] at hm
        rw [he] at c1
        replace hm := Lib.hid hm
        clear he
        go_wp2_with fail
        refine (c1 _).mono ?_
        rintro e W1 ⟨rfl, g1⟩
        clear e1 e2 e3 e4 bx lb
        go_wp2
        go_roundw
        case rel => exact ⟨k + 1, A', c', O, by omega, rfl, by go_num, Lib.hid hm.out.symm, by omega, own1.bl g1.bl, G1.gr g1⟩
        case measure => simp [intOf]; omega
      · rw [if_neg he] at hm
        simp only [Bool.not_eq_true] at he
        rw [he] at c1
        replace hm := Lib.hid hm
        clear he
        go_wp2_with fail
        refine (c1 _).mono ?_
        rintro e W1 ⟨rfl, g1⟩
        have k0 := (bx.gr g1).cell
        have own2 := own1.bl g1.bl
        have G2 := G1.gr g1
        have sz2 := G2.size
        clear e1 e2 e3 e4 bx lb g1
        go_wp2_with (at_builtin; refine wp_app_r rfl (.tmp 31) (.tmp 33) rfl A' c' O rfl w.heap.size (own2.bl ((Bl.refl W1).alloc _)) W1.heap.size ⟨ra, rb, rc, rd⟩ 1 rfl (At.new W1 _ _) (by omega) (by simp; omega) ?_; intro A3 c3 w3 own5 ap3)
        go_roundw
        case rel => exact ⟨k + 1, A3, c3, O ++ [⟨ra, rb, rc, rd⟩], by omega, by simp, by go_num, Lib.hid hm.out.symm, by simp; omega, own5, ap3.bl (G2.alloc _) (own2.bl ((Bl.refl W1).alloc _)).lies (Nat.le_refl _)⟩
        case measure => simp [intOf]; omega
    · obtain rfl : k = n := by omega
      go_wp2
      go_ret
      exact ⟨A', c', O, rfl, own, by rw [hO.out, hn.out, List.take_length]; exact fin.out, G⟩

set_option maxHeartbeats 16000000 in
theorem of1 : ∀ (N : Nat) (A : Option Addr) (c : Nat) (L : List Rc) (X Y : List Int) (w : World), L.length ≤ N → L.length ≤ 100000000 → L.length ≤ c → c ≤ 9223372036854775807 → Rs w A L → Grid X Y → InNe X Y L →
    Calls Try.prog 52 #[.slice A L.length c] w (RR w (OfQ X Y L)) := by
  intro N
  induction N with
  | zero =>
    intro A c L X Y w hN _ hc hcm hA hX hi
    exact of0 A c L X Y w (by omega) hA hi
  | succ N ih =>
    intro A c L X Y w hN hl hc hcm hA hX hi
    by_cases h1 : L.length ≤ 1
    · exact of0 A c L X Y w h1 hA hi
    · obtain ⟨b, off, rfl, row⟩ := hA.opened (by omega)
      obtain ⟨n, hn⟩ : ∃ n, n = L.length := ⟨_, rfl⟩
      obtain ⟨hf, hh⟩ : ∃ hf, hf = n / 2 := ⟨_, rfl⟩
      rw [← hn] at h1 hc hl hN ⊢
      have h2 : hf ≤ n := by omega
      have h3 : hf < c := by omega
      have h4 : 1 ≤ hf ∧ hf < n := by omega
      obtain ⟨h41, h42⟩ := h4
      have q1 : (n : Int) / 2 = (hf : Int) := by omega
      have q2 : (n : Int).tdiv 2 = (hf : Int) := by rw [Int.tdiv_eq_ediv_of_nonneg (by omega)]; omega
      have q3 : IntKind.i64.wrap (hf : Int) = (hf : Int) := IntWalk.i64_in _ (by omega)
      have q4 : (hf : Int) ≤ (n : Int) := by omega
      have q5 : (hf : Int) ≤ (c : Int) := by omega
      have q6 : (n : Int) ≤ (c : Int) := by omega
      have hd : decide ((1 : Int) < (n : Int)) = true := by simp; omega
      have row1 := (row.half hf).1
      have row2 := (row.half hf).2
      have l1 : (L.take hf).length = hf := by rw [List.length_take]; omega
      have l2 : (L.drop hf).length = n - hf := by rw [List.length_drop]; omega
      have c1 := ih (some ⟨b, off, none⟩) c (L.take hf) X Y
      have c2 := ih (some ⟨b, off + hf * 4, none⟩) (c - hf) (L.drop hf) X Y
      rw [l1] at c1
      rw [l2] at c2
      replace hn := Lib.hid hn
      replace hh := Lib.hid hh
      clear l1 l2 ih
      go_enter Try.func52, Try.ntmps52
      go_wp2_with fail
      go_region_held3 (fun _ => True) (exact trivial)
        ((first
          | (go_at_call_of 52 (Value.slice (some ⟨b, off, none⟩) hf c); (refine (c1 _ (by omega) (by omega) (by omega) hcm (.inr ⟨b, off, rfl, row1.bl (by first | exact Bl.refl _ | exact (Bl.refl _).drew)⟩) hX (fun r hr => hi r (List.mem_of_mem_take hr))).mono ?_); rintro e W2 ⟨A2, c2', R1, rfl, o1, ofq1, g2⟩)
          | (go_at_call_of 52 (Value.slice (some ⟨b, off + hf * 4, none⟩) (n - hf) (c - hf)); (refine (c2 _ (by omega) (by omega) (by omega) (by omega) (.inr ⟨b, off + hf * 4, rfl, row2.bl (by first | exact Bl.refl _ | exact (Bl.refl _).drew | exact g2 | exact (Bl.refl _).drew.trans g2 | exact g2.drew)⟩) hX (fun r hr => hi r (List.mem_of_mem_drop hr))).mono ?_); rintro e W3 ⟨A3, c3', R2, rfl, o2, ofq2, g3⟩)
          | (go_at_call 88; (refine (union1 A2 A3 c2' c3' R1 R2 X Y _ (o1.rs.bl (by first | exact g3 | exact g3.drew)) (o2.rs.bl (by first | exact Bl.refl _ | exact (Bl.refl _).drew)) ofq1.reg ofq2.reg hX ofq1.inr ofq2.inr).mono ?_); rintro e W4 ⟨A4, c4', R, rfl, o3, mq, g4⟩)))
      have mqf := Lib.hid (halves_ofq (X := X) (Y := Y) ofq1 ofq2 mq)
      have GW : Bl w W4 := by first | exact (((Bl.refl w).drew.trans g2).trans g3).trans g4 | exact ((g2.trans g3).trans g4) | exact ((((Bl.refl w).drew.trans g2).drew.trans g3).drew.trans g4) | exact (((g2.drew).trans g3).drew).trans g4
      have szz : w.heap.size ≤ W3.heap.size := by have := g2.size; have := g3.size; simp at *; omega
      clear q1 q2 q3 hd c1 c2
      go_wp2
      go_ret
      exact ⟨A4, c4', R, rfl, own_mono o3 szz, mqf.out, GW⟩


end Go.Proofs.Ytafceieenhogpaa
namespace Go.Proofs.Ytafceieenhogpaa
open Go.RowKit Go.Sort

def smRc (r : Rc) : Rc := smallR r.a r.b r.c r.d
def I64r (L : List Rc) : Prop := ∀ r ∈ L, I64 r.a ∧ I64 r.b ∧ I64 r.c ∧ I64 r.d
/-- The ints from -4 to 31. -/
def near : List Int := (List.range 36).map fun (i : Nat) => (i : Int) - 4
theorem near_mem (x : Int) : x ∈ near ↔ -4 ≤ x ∧ x ≤ 31 := by
  unfold near
  rw [List.mem_map]
  constructor
  · rintro ⟨i, hi, rfl⟩; rw [List.mem_range] at hi; omega
  · intro h; exact ⟨(x + 4).toNat, by rw [List.mem_range]; omega, by omega⟩
theorem grid_near : Grid near near := ⟨by simp [near], by simp [near], fun x hx => by rw [near_mem] at hx; unfold I64; omega⟩
theorem small_near (L : List Rc) : InNe near near (L.map smRc) := by
  intro r hr _
  rw [List.mem_map] at hr
  obtain ⟨s, _, rfl⟩ := hr
  obtain ⟨h1, h2, h3, h4, h5, h6, h7, h8⟩ := small_bd s.a s.b s.c s.d
  unfold smRc
  rw [near_mem, near_mem, near_mem, near_mem]
  omega

set_option maxHeartbeats 8000000 in
theorem refSmall1 (A : Option Addr) (c : Nat) (L : List Rc) (M : Nat) (w : World) (hA : Rs w A L) (hi : I64r L) (hl : L.length ≤ 9223372036854775807) (hM : M ≤ 8) :
    Calls Try.prog 36 #[.slice A L.length c, .int .i64 M] w (RR w (fun R => R = (L.take M).map smRc)) := by
  obtain ⟨n, hn⟩ : ∃ n, n = L.length := ⟨_, rfl⟩
  rw [← hn] at hl ⊢
  replace hn := Lib.hid hn
  go_enter Try.func36, Try.ntmps36
  go_wp2
  go_loopw [5, 6] (fun v i wr => ∃ (k : Nat) (A' : Option Addr) (c' : Nat) (O : List Rc), k ≤ n ∧ k ≤ M ∧ v = .slice A' O.length c' ∧ i = .int .i64 k ∧ Hid (O = (L.take k).map smRc) ∧ O.length ≤ 8 ∧ OwR wr w.heap.size A' c' O ∧ Bl w wr) (fun _ i _ => n - (intOf i).toNat)
  case atStart => exact ⟨0, none, 0, [], Nat.zero_le _, Nat.zero_le _, rfl, rfl, Lib.hid rfl, by simp, OwR.nil _ _, Bl.refl _⟩
  case round =>
    obtain ⟨k, A', c', O, hk, hkM, rfl, rfl, hO, hO8, own, G⟩ := hrel
    have szo := G.size
    by_cases hlt : k < n
    · by_cases hltM : k < M
      · obtain ⟨⟨ra, rb, rc, rd⟩, hr⟩ := list_at (show k < L.length by rw [← hn.out]; exact hlt)
        obtain ⟨b, off, rfl, hrow⟩ := hA.opened (by have := hn.out; omega)
        obtain ⟨e1, e2, e3, e4⟩ := (hrow.bl G) k _ hr
        dsimp only at e1 e2 e3 e4
        obtain ⟨i1, i2, i3, i4⟩ := hi _ (List.mem_of_getElem? hr)
        have c1 := fun w => small1 ra rb rc rd w i1 i2 i3 i4
        have hm : Hid ((L.take (k + 1)).map smRc = O ++ [smallR ra rb rc rd]) := Lib.hid (by rw [take_more hr, List.map_append, hO.out]; rfl)
        have hO7 : O.length ≤ k := by rw [hO.out, List.length_map, List.length_take]; omega
        clear hr
        go_wp2_with fail
        refine (c1 _).mono ?_
        rintro e W1 ⟨rfl, g1⟩
        have own2 := own.bl g1.bl
        have G2 := G.gr g1
        have sz2 := G2.size
        clear e1 e2 e3 e4 g1 i1 i2 i3 i4
        go_wp2_with (at_builtin; refine wp_app_r rfl (.tmp 18) (.tmp 24) rfl A' c' O rfl w.heap.size (own2.bl ((Bl.refl W1).alloc _)) W1.heap.size (smallR ra rb rc rd) 1 rfl (At.new W1 _ _) (by omega) (by simp; omega) ?_; intro A3 c3 w3 own5 ap3)
        go_roundw
        case rel => exact ⟨k + 1, A3, c3, O ++ [smallR ra rb rc rd], by omega, by omega, by simp, by go_num, Lib.hid hm.out.symm, by simp; omega, own5, ap3.bl (G2.alloc _) (own2.bl ((Bl.refl W1).alloc _)).lies (Nat.le_refl _)⟩
        case measure => simp [intOf]; omega
      · obtain rfl : k = M := by omega
        go_wp2
        go_ret
        exact ⟨A', c', O, rfl, own, hO.out, G⟩
    · have hkn : k = n := by omega
      have fin : Hid (O = (L.take M).map smRc) := Lib.hid (by rw [hO.out, List.take_of_length_le (by have := hn.out; omega), List.take_of_length_le (l := L) (by have := hn.out; omega)])
      clear hkn
      by_cases hltM : k < M
      all_goals
        go_wp2
        go_ret
        exact ⟨A', c', O, rfl, own, fin.out, G⟩

/-- The document's example. -/
def exL : List Rc := [⟨0, 0, 2, 2⟩, ⟨2, 0, 4, 2⟩]
theorem ex_of {X Y : List Int} {R : List Rc} (h : OfQ X Y exL R) : R = [⟨0, 0, 4, 2⟩] := by
  refine reg_ext h.reg (one_reg (by decide)) fun x y => ?_
  rw [← hasL_iff, ← hasL_iff, h.has]
  simp [exL, hasL, hasB]
  omega

theorem At.rowR {w : World} {g : Nat} {cs : Array Value} {t : TypeId} {L : List Rc} (h : At w g cs t) (hc : cs.toList = cR L) : RowR w g 0 L := fun k r hk => by
  have q := fun j (hj : j < 4) => (h.cell (k * 4 + j)).trans ((Array.getElem?_toList).symm.trans ((congrArg (·[k * 4 + j]?) hc).trans (cR_get L k r j hk hj)))
  refine ⟨?_, ?_, ?_, ?_⟩
  · rw [Nat.zero_add]; exact q 0 (by omega)
  · rw [Nat.zero_add]; exact q 1 (by omega)
  · rw [Nat.zero_add]; exact q 2 (by omega)
  · rw [Nat.zero_add]; exact q 3 (by omega)

def LivesQ (w : World) (e : Ending) (w' : World) : Prop := e = .returned (.bool true) ∧ Bl w w'
set_option maxHeartbeats 4000000 in
theorem lives1 (w : World) : Calls Try.prog 12 #[] w (LivesQ w) := by
  have c1 := of1 2 (some ⟨w.heap.size, 0, none⟩) 2 exL near near (w.alloc (.cells #[.int .i64 0, .int .i64 0, .int .i64 2, .int .i64 2, .int .i64 2, .int .i64 0, .int .i64 4, .int .i64 2] 24)) (by simp [exL]) (by simp [exL]) (by simp [exL]) (by omega)
    (.inr ⟨_, 0, rfl, At.rowR (At.new w _ _) rfl⟩) grid_near (by intro r hr _; simp [exL] at hr; rcases hr with rfl | rfl <;> simp [near_mem])
  go_enter Try.func12, Try.ntmps12
  go_wp2_with fail
  refine c1.mono ?_
  rintro e W1 ⟨A1, c1', R, rfl, o1, q1, g1⟩
  have hR := ex_of q1
  subst hR
  have G1 : Bl w W1 := ((Bl.refl w).alloc _).trans g1
  have rs := o1.rs
  clear c1 q1 g1 o1
  go_wp2_with fail
  refine (refSame1 A1 (some ⟨W1.heap.size, 0, none⟩) c1' 1 [⟨0, 0, 4, 2⟩] [⟨0, 0, 4, 2⟩] _ (rs.bl ((Bl.refl W1).alloc _)) (.inr ⟨_, 0, rfl, At.rowR (At.new W1 _ _) rfl⟩) (by simp) (by simp)).mono ?_
  rintro e W2 ⟨rfl, g2⟩
  go_wp2
  go_ret
  exact ⟨by simp, (G1.alloc _).gr g2⟩

end Go.Proofs.Ytafceieenhogpaa
namespace Go.Proofs.Ytafceieenhogpaa
open Go.ChangeShapes Go.WideShapes Go.ChangeAt Go.RowKit Go.Joins Go.Sort Go.Deep

instance : Inhabited Rc := ⟨⟨0, 0, 0, 0⟩⟩
theorem cellsInt : Try.prog.cellsOf 3 = 1 := by kernel_rfl

section
variable {H : Type} {enc : TypeId × Value → H} {w : World} {base : Nat} {spare : Nat → Bool} {held : Bool}
set_option maxRecDepth 100000 in
/-- A rectangle's cells, as they read. -/
theorem rect_cells {n : Nat} {cs : List Value} {x : DataW H × List MemPlace} (h : DataW.trod enc Try.prog w base spare held n 24 cs = some x) :
    ∃ r : Rc, cs = [.int .i64 r.a, .int .i64 r.b, .int .i64 r.c, .int .i64 r.d] ∧ I64 r.a ∧ I64 r.b ∧ I64 r.c ∧ I64 r.d := by
  obtain ⟨y0, y1, y2, y3, m, _, hl, h0, h1, h2, h3⟩ := trod_struct4 Try.underlying24 h
  rw [cellsRect] at hl
  match cs, hl with
  | [v0, v1, v2, v3], _ =>
    obtain ⟨a, e0, _, wa⟩ := DataW.trod_int Try.underlying3 h0
    obtain ⟨b, e1, _, wb⟩ := DataW.trod_int Try.underlying3 h1
    obtain ⟨c, e2, _, wc⟩ := DataW.trod_int Try.underlying3 h2
    obtain ⟨d, e3, _, wd⟩ := DataW.trod_int Try.underlying3 h3
    simp [cellsInt] at e0 e1 e2 e3
    subst e0 e1 e2 e3
    exact ⟨⟨a, b, c, d⟩, rfl, I64.of_wf wa, I64.of_wf wb, I64.of_wf wc, I64.of_wf wd⟩

set_option maxRecDepth 100000 in
/-- The argument: a row of rectangles that came in. -/
theorem open_rects {v : Value} {dd : DataW H} {p : List MemPlace} {b0 : Nat} {r : Reach} (hv : Value.okWide Try.prog w r b0 22 v) (h : DataW.Trod enc Try.prog w base spare held 22 v dd p) :
    ∃ (A : Option Addr) (cap : Nat) (L : List Rc), v = .slice A L.length cap ∧ L.length ≤ cap ∧ cap ≤ maxLen ∧ Rs w A L ∧ I64r L := by
  obtain ⟨a0, len0, cap0, rfl⟩ := okWide_slice Try.underlying22 hv
  obtain ⟨fuel, hf⟩ := h
  rcases open_slice Try.underlying22 hf with ⟨hc, _⟩ | ⟨a, len, cap, m, n, D, Pl, hc, _, hl, hm, hmm, _, hx⟩
  · simp [Value.cells] at hc
    obtain ⟨rfl, rfl, rfl⟩ := hc
    exact ⟨none, 0, [], rfl, Nat.zero_le _, Nat.zero_le _, .inl rfl, by intro r hr; simp at hr⟩
  · simp [Value.cells] at hc
    obtain ⟨rfl, rfl, rfl⟩ := hc
    by_cases hz : len0 = 0
    · subst hz; exact ⟨_, _, [], rfl, Nat.zero_le _, hm, .inl rfl, by intro r hr; simp at hr⟩
    · have hlm : len0 ≤ m := by rw [hmm]; split <;> omega
      have each : ∀ i, i < m → ∃ q : Rc, (∀ j, j < 4 → w.cell? (a.add (i * 4 + j)) = [Value.int .i64 q.a, .int .i64 q.b, .int .i64 q.c, .int .i64 q.d][j]?) ∧ I64 q.a ∧ I64 q.b ∧ I64 q.c ∧ I64 q.d := by
        intro i hi
        obtain ⟨cs', h1, h2⟩ := hx i hi
        rw [cellsRect] at h1
        obtain ⟨_, hlen, hcell⟩ := World.cells?_some h1
        obtain ⟨q, rfl, hq⟩ := rect_cells h2
        refine ⟨q, fun j hj => ?_, hq⟩
        rw [← add_add]
        exact hcell j hj
      obtain ⟨f, hfq⟩ := choose_lt each
      have h0 := (hfq 0 (by omega)).1 0 (by omega)
      obtain ⟨b, off, spot⟩ := a
      cases spot with
      | some t =>
        simp [Addr.add, World.cell?] at h0
        exfalso
        split at h0 <;> cases h0
      | none =>
        have ad : ∀ i, (⟨b, off, none⟩ : Addr).add i = ⟨b, off + i, none⟩ := fun i => by unfold Addr.add; split <;> simp_all
        refine ⟨some ⟨b, off, none⟩, cap0, (List.range len0).map f, by simp, by simpa using hl, hm, .inr ⟨b, off, rfl, fun k r hk => ?_⟩, fun r hr => ?_⟩
        · have hkl := get_lt hk
          simp at hkl
          simp [hkl] at hk
          subst hk
          have hk' := (hfq k (by omega)).1
          simp only [ad] at hk'
          exact ⟨hk' 0 (by omega), hk' 1 (by omega), hk' 2 (by omega), hk' 3 (by omega)⟩
        · rw [List.mem_map] at hr
          obtain ⟨k, hk, rfl⟩ := hr
          rw [List.mem_range] at hk
          exact (hfq k (by omega)).2
end

end Go.Proofs.Ytafceieenhogpaa
