/-
  What is proved: what 'merge' of package region hands back of two regions: the region of the points that are kept.
-/
import Derived.Test.YtafceieenhogpaaF
import Derived.Test.YtafceieenhogpaaMm
import Derived.Test.YtafceieenhogpaaFr
namespace Go.Proofs.Ytafceieenhogpaa
open Go.RowKit Go.Sort

/-- Numbers of two short lists. -/
structure Grid (X Y : List Int) : Prop where
  x : X.length ≤ 1000
  y : Y.length ≤ 1000
  i : I64s X
/-- What a merge tells. -/
structure MQ (X Y : List Int) (a b : List Rc) (kp : Bool → Bool → Bool) (L : List Rc) : Prop where
  reg : IsReg L
  inr : InR X Y L
  has : ∀ x y, hasL L x y = kp (hasL a x y) (hasL b x y)

theorem OwBs.bs {w : World} {B : Nat} {A : Option Addr} {c : Nat} {l : List BW} (h : OwBs w B A c l) : Bs w A l ∧ l.length ≤ c := by
  have hc := h.1.cap
  rw [List.length_map] at hc
  refine ⟨⟨?_, fun r hr => ⟨(h.2 r hr).cap, (h.2 r hr).is⟩⟩, hc⟩
  rcases h.1.addr with ⟨_, _, h0⟩ | ⟨g, rfl, _⟩
  · left; simpa using h0
  · right; exact ⟨g, 0, rfl, h.1.row⟩
theorem OwBs.capmax {w : World} {B : Nat} {A : Option Addr} {c : Nat} {l : List BW} (h : OwBs w B A c l) : c ≤ 9223372036854775807 := by
  rcases h.1.2 with ⟨h1, _⟩ | ⟨g, cap, cur, h1, _, _, _, h4, _⟩
  · injection h1 with _ _ h1; omega
  · injection h1 with _ _ h1; subst h1; unfold maxLen at h4; omega

theorem own_mono {w : World} {B B' s n : Nat} {e : TypeId} {v : Value} {xs : List Value} (h : w.ownsRow B e s v n xs) (hB : B' ≤ B) : w.ownsRow B' e s v n xs := by
  refine ⟨h.1, ?_⟩
  rcases h.2 with h1 | ⟨g, cap, cur, h1, h2, h3⟩
  · exact .inl h1
  · exact .inr ⟨g, cap, cur, h1, by omega, h3⟩
theorem ownI_mono {w : World} {B B' c : Nat} {A : Option Addr} {E : List Int} (h : OwI w B A c E) (hB : B' ≤ B) : OwI w B' A c E := own_mono h hB
theorem ownR_mono {w : World} {B B' c : Nat} {A : Option Addr} {E : List Rc} (h : OwR w B A c E) (hB : B' ≤ B) : OwR w B' A c E := own_mono h hB

set_option maxRecDepth 100000 in
set_option maxHeartbeats 16000000 in
theorem merge1 (A B : Option Addr) (c d : Nat) (a b : List Rc) (X Y : List Int) (g : FuncId) (kp : Bool → Bool → Bool) (w : World) (hA : Rs w A a) (hB : Rs w B b) (ra : IsReg a) (rb : IsReg b) (hX : Grid X Y) (ia : InR X Y a) (ib : InR X Y b)
    (hc : Kc g) (hg : Kp g kp) (hk : kp false false = false) :
    Calls Try.prog 103 #[.slice A a.length c, .slice B b.length d, .func (.func g) #[] #[]] w (RR w (MQ X Y a b kp)) := by
  obtain ⟨ga, ea⟩ := ra.bands
  obtain ⟨gb, eb⟩ := rb.bands
  have la : a.length ≤ 1000000 := by
    have h1 := rects_len ga.toWk (InR.bands ga (by rw [ea]; exact ia))
    rw [ea] at h1
    exact Nat.le_trans h1 (Nat.le_trans (Nat.mul_le_mul hX.y hX.x) (by omega))
  have lb : b.length ≤ 1000000 := by
    have h1 := rects_len gb.toWk (InR.bands gb (by rw [eb]; exact ib))
    rw [eb] at h1
    exact Nat.le_trans h1 (Nat.le_trans (Nat.mul_le_mul hX.y hX.x) (by omega))
  go_enter Try.func103, Try.ntmps103
  go_wp2_with fail
  refine (bandsOf1 A c a w hA la).mono ?_
  rintro e W1 ⟨A1, c1, p, rfl, op, hp, g1⟩
  go_wp2_with fail
  refine (bandsOf1 B d b W1 (hB.bl g1) lb).mono ?_
  rintro e W2 ⟨A2, c2, q, rfl, oq, hq, g2⟩
  obtain ⟨bp, cp⟩ := (op.bl g2).bs
  obtain ⟨bq, cq⟩ := oq.bs
  have mp := op.capmax
  have mq := oq.capmax
  rw [← hp] at ga ea
  rw [← hq] at gb eb
  have wp := ga.toWk
  have wq := gb.toWk
  have gia := InR.bands ga (by rw [ea]; exact ia)
  have gib := InR.bands gb (by rw [eb]; exact ib)
  have lp : p.length ≤ 1000 := by have := bands_len wp gia; rw [List.length_map] at this; exact Nat.le_trans this hX.y
  have lq : q.length ≤ 1000 := by have := bands_len wq gib; rw [List.length_map] at this; exact Nat.le_trans this hX.y
  have elp : ∀ r ∈ p.map BW.bn, r.E.length ≤ 1000000 := fun r hr => Nat.le_trans (inc_len _ _ (wp.ok r hr).2.1 (gia r hr).2.2) (Nat.le_trans hX.x (by omega))
  have elq : ∀ r ∈ q.map BW.bn, r.E.length ≤ 1000000 := fun r hr => Nat.le_trans (inc_len _ _ (wq.ok r hr).2.1 (gib r hr).2.2) (Nat.le_trans hX.x (by omega))
  have ilp : ∀ r ∈ p.map BW.bn, I64s r.E := fun r hr x hx => hX.i x ((gia r hr).2.2 x hx)
  have ilq : ∀ r ∈ q.map BW.bn, I64s r.E := fun r hr x hx => hX.i x ((gib r hr).2.2 x hx)
  have G2 : Bl w W2 := g1.trans g2
  clear oq op hA hB
  go_wp2_with fail
  refine (heights1 A1 A2 c1 c2 p q W2 bp bq (by omega) (by omega)).mono ?_
  rintro e W3 ⟨A3, c3, ys, rfl, oy, hy, g3⟩
  have iy := oy.is
  have lys : ys.length ≤ 4000 := by have := hy.len; rw [List.length_map, List.length_map] at this; omega
  have G3 := G2.trans g3
  have sz3 := G3.size
  have st := MInv.start hy hk wp wq
  replace st := Lib.hid st
  replace bp := bp.bl g3
  replace bq := bq.bl g3
  clear oy g1 g2 g3 G2
  go_wp2
  go_loopw [7, 8, 10, 11] (fun vp vq vo i wr => ∃ (k : Nat) (A4 A5 A6 : Option Addr) (c4 c5 c6 : Nat) (p' q' O : List BW), vp = .slice A4 p'.length c4 ∧ vq = .slice A5 q'.length c5 ∧ vo = .slice A6 O.length c6 ∧ i = .int .i64 k ∧
      Hid (MInv (p.map BW.bn) (q.map BW.bn) kp ys k (O.map BW.bn) (p'.map BW.bn) (q'.map BW.bn)) ∧ (k ≤ ys.length ∨ k = 1) ∧ 1 ≤ k ∧ Bs W3 A4 p' ∧ p'.length ≤ c4 ∧ c4 ≤ 9223372036854775807 ∧ Bs W3 A5 q' ∧ q'.length ≤ c5 ∧ c5 ≤ 9223372036854775807 ∧
      OwBs wr W3.heap.size A6 c6 O ∧ Bl W3 wr) (fun _ _ _ i _ => ys.length - (intOf i).toNat)
  case atStart => exact ⟨1, A1, A2, none, c1, c2, 0, p, q, [], rfl, rfl, rfl, rfl, st, .inr rfl, Nat.le_refl _, bp, cp, mp, bq, cq, mq, ⟨OwB.nil _ _, by simp⟩, Bl.refl _⟩
  case round =>
    obtain ⟨k, A4, A5, A6, c4, c5, c6, p', q', O, rfl, rfl, rfl, rfl, inv, hk1, hk2, bp', cp', mp', bq', cq', mq', ow, G⟩ := hrel
    by_cases hlt : k < ys.length
    · obtain ⟨m, rfl⟩ : ∃ m, k = m + 1 := ⟨k - 1, by omega⟩
      obtain ⟨y0, h0⟩ := list_at (show m < ys.length by omega)
      obtain ⟨y1, h1⟩ := list_at hlt
      obtain ⟨b0, o0, rfl, ry⟩ := iy.opened (by omega)
      have E0 := fun n os => (ry.bl ((G.drewN n).grow os)) m y0 h0
      have E1 := fun n os => (ry.bl ((G.drewN n).grow os)) (m + 1) y1 h1
      have hw1 : IntKind.i64.wrap (m : Int) = (m : Int) := IntWalk.i64_in _ (by omega)
      have hm1 : (m : Int) < (ys.length : Int) := by omega
      have hm2 : (m : Int) + 1 < (ys.length : Int) := by omega
      replace h0 := Lib.hid h0
      replace h1 := Lib.hid h1
      clear ry
      go_wp2
      refine wp_region_quiet_grown (by kernel_rfl) (by kernel_rfl) ?_
      repeat (first | go_big_quiet_step (fail) | quiet_step (fail))
      refine wpQuiet_nil ?_
      intro W4 g8
      replace g8 : Gr _ W4 := g8
      clear E0 E1 hw1
      have ow4 := ow.bl g8.bl
      have G4 := G.gr g8
      have bp4 := bp'.bl G4
      have bq4 := bq'.bl G4
      clear g8 ow G
      go_wp2_with fail
      refine (from2 A4 c4 p' y0 W4 bp4 cp' mp').mono ?_
      rintro e w' ⟨A7, c7, p7, rfl, cp7, cc7, kp7, hp7, rfl⟩
      replace hp7 := Lib.hid hp7
      go_wp2_with fail
      refine (from2 A5 c5 q' y0 W4 bq4 cq' mq').mono ?_
      rintro e w' ⟨A8, c8, q8, rfl, cq8, cc8, kq8, hq8, rfl⟩
      have inv' := inv.out
      have hsp : (p7.map BW.bn).Sublist (p.map BW.bn) := by rw [hp7.out]; exact (fromL_sub _ _).trans inv'.sp
      have hsq : (q8.map BW.bn).Sublist (q.map BW.bn) := by rw [hq8]; exact (fromL_sub _ _).trans inv'.sq
      have ok7 := edgesL_ok (y := y0) (wp.sub hsp)
      have ok8 := edgesL_ok (y := y0) (wq.sub hsq)
      have mem7 := edgesL_mem (p := p7.map BW.bn) (y := y0)
      have mem8 := edgesL_mem (p := q8.map BW.bn) (y := y0)
      have len7 : (edgesL (p7.map BW.bn) y0).length ≤ 1000000 := by
        rcases mem7 with h | ⟨r, h, h'⟩
        · rw [h]; simp
        · rw [h']; exact elp r (hsp.mem h)
      have len8 : (edgesL (q8.map BW.bn) y0).length ≤ 1000000 := by
        rcases mem8 with h | ⟨r, h, h'⟩
        · rw [h]; simp
        · rw [h']; exact elq r (hsq.mem h)
      have i7 : I64s (edgesL (p7.map BW.bn) y0) := by
        rcases mem7 with h | ⟨r, h, h'⟩
        · rw [h]; intro x hx; simp at hx
        · rw [h']; exact ilp r (hsp.mem h)
      have i8 : I64s (edgesL (q8.map BW.bn) y0) := by
        rcases mem8 with h | ⟨r, h, h'⟩
        · rw [h]; intro x hx; simp at hx
        · rw [h']; exact ilq r (hsq.mem h)
      have lO : O.length ≤ 4000 := by have := inv'.len; rw [List.length_map] at this; omega
      replace hq8 := Lib.hid hq8
      have elO : ∀ r ∈ O, r.E.length ≤ 9000000 := fun r hr => Nat.le_trans (inv'.el r.bn (List.mem_map_of_mem hr)) (by omega)
      clear inv' mem7 mem8
      go_wp2_with fail
      refine (edgesAt1 A7 c7 p7 y0 W4 (kp7 W4 bp4)).mono ?_
      rintro e w' ⟨A9, c9, e7, rfl, _, is7, he7, rfl⟩
      rw [← he7] at ok7 len7 i7
      replace he7 := Lib.hid he7
      go_wp2_with fail
      refine (edgesAt1 A8 c8 q8 y0 W4 (kq8 W4 bq4)).mono ?_
      rintro e w' ⟨A10, c10, e8, rfl, _, is8, he8, rfl⟩
      rw [← he8] at ok8 len8 i8
      replace he8 := Lib.hid he8
      go_wp2_with fail
      refine (mergeEdges1 A9 A10 c9 c10 e7 e8 g kp W4 is7 is8 ok7.1 ok8.1 ok7.2 ok8.2 len7 len8 i7 i8 hc hg hk).mono ?_
      rintro e W5 ⟨A11, c11, ne, rfl, own, hm, g5⟩
      have hml : ne.length ≤ 9000000 := by have := hm.len; omega
      replace hm := Lib.hid hm
      have sz4 := G4.size
      have ow5 := ow4.bl g5
      have own5 : OwI W5 W3.heap.size A11 c11 ne := ownI_mono own sz4
      have G5 := G4.trans g5
      have sz5 := G5.size
      go_wp2_with fail
      refine (add1 A6 c6 O ⟨y0, y1, ne, A11, c11⟩ W5 W3.heap.size ow5 own5 sz5 (by omega) elO hml).mono ?_
      rintro e W6 ⟨A12, c12, O6, rfl, ow6, hO6, b6⟩
      go_wp2
      go_roundw
      case rel =>
        refine ⟨m + 1 + 1, A7, A8, A12, c7, c8, c12, p7, q8, O6, rfl, rfl, rfl, by go_num, Lib.hid ?_, .inl (by omega), by omega, kp7 W3 bp', cp7, by omega, kq8 W3 bq', cq8, by omega, ow6, G5.trans2 b6 sz5⟩
        have := inv.out.step hy wp wq (y0 := y0) (y1 := y1) h0.out h1.out elp elq (e := ne) (by rw [← hp7.out, ← hq8.out, ← he7.out, ← he8.out]; exact hm.out)
        rw [← hp7.out, ← hq8.out] at this
        rw [hO6]
        exact this
      case measure => simp [intOf]; omega
    · have fin := inv.out.done hy hk (by omega) hk1
      have wk := inv.out.wk
      have hin : InB X Y (O.map BW.bn) := fun r hr => by
        obtain ⟨q1, q2, q3⟩ := inv.out.ed r hr
        refine ⟨?_, ?_, fun e he => ?_⟩
        · obtain ⟨b', h1, h2⟩ := (hy.mem _).1 q2
          rcases h1 with h1 | h1
          · rcases h2 with h2 | h2 <;> rw [h2]; exact (gia b' h1).1; exact (gia b' h1).2.1
          · rcases h2 with h2 | h2 <;> rw [h2]; exact (gib b' h1).1; exact (gib b' h1).2.1
        · obtain ⟨b', h1, h2⟩ := (hy.mem _).1 q3
          rcases h1 with h1 | h1
          · rcases h2 with h2 | h2 <;> rw [h2]; exact (gia b' h1).1; exact (gia b' h1).2.1
          · rcases h2 with h2 | h2 <;> rw [h2]; exact (gib b' h1).1; exact (gib b' h1).2.1
        · obtain ⟨b', h1, h2⟩ := q1 e he
          rcases h1 with h1 | h1
          · exact (gia b' h1).2.2 e h2
          · exact (gib b' h1).2.2 e h2
      have lR : (rectsL (O.map BW.bn)).length ≤ 1000000 := Nat.le_trans (rects_len wk hin) (Nat.le_trans (Nat.mul_le_mul hX.y hX.x) (by omega))
      have lO : O.length ≤ 1000000 := by
        have h1 := bands_len wk hin
        have h2 := hX.y
        rw [List.length_map] at h1
        omega
      have eO : ∀ r ∈ O, r.E.length % 2 = 0 ∧ r.E.length ≤ 9000000 := fun r hr => ⟨(wk.ok r.bn (List.mem_map_of_mem hr)).2.2, Nat.le_trans (inv.out.el r.bn (List.mem_map_of_mem hr)) (by omega)⟩
      have hfin : MQ X Y a b kp (rectsL (O.map BW.bn)) := by
        refine ⟨wk.reg, hin.rects, fun x y => ?_⟩
        rw [rects_hasL wk, fin, ← rects_hasL wp, ← rects_hasL wq, ea, eb]
      replace hfin := Lib.hid hfin
      clear fin wk hin
      go_wp2_with fail
      refine (rectsOf1 A6 c6 O wr ow.bs.1 lO eO lR).mono ?_
      rintro e W4 ⟨A7, c7, L, rfl, owL, hL, g4⟩
      replace hL := Lib.hid hL
      go_wp2
      go_ret
      have sz := G.size
      exact ⟨A7, c7, L, rfl, ownR_mono owL (by omega), by rw [hL.out]; exact hfin.out, (G3.trans G).trans g4⟩

end Go.Proofs.Ytafceieenhogpaa
