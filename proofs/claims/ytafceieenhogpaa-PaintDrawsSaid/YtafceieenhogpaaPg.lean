/-
  What is proved: what Clear of package paint does. No conditions but bounds.
-/
import Derived.Test.YtafceieenhogpaaPf
import Derived.Test.YtafceieenhogpaaPp
import Derived.Test.YtafceieenhogpaaZi
namespace Go.Proofs.Ytafceieenhogpaa
open Go.RowKit Go.Sort Go.Shelf

set_option maxRecDepth 100000 in
set_option maxHeartbeats 4000000 in
theorem pclear1 {pm pc W H : Nat} {L : List Int} (q : Int) (A0 : Option Addr) (k0 : Nat) (R0 : List Rc) (w : World) (hq : C32 q) (hm : mayC q = true) (hI : Img w pm pc W H L) (hA : Rs w A0 R0) (hR0 : R0.length ≤ 1000000) :
    Calls Try.prog 43 #[.pointer (some ⟨pm, 0, none⟩), .slice A0 R0.length k0, .int .u32 q] w
      (fun e w' => ∃ R, OfQ g256 g256 (cutL ⟨0, 0, W, H⟩ R0) R ∧ e = .returned (.int .i64 ((ptsL R).length : Nat)) ∧ w.grownBy w' (some pc) ∧ Img w' pm pc W H (drawP W (fun _ _ => q) L (ptsL R))) := by
  have w2 := hI.w2
  have h2 := hI.h2
  have cW := fun (w' : World) (g : Bl w w') => within1 ⟨0, 0, W, H⟩ ⟨by simp, by simp; omega, by simp, by simp; omega⟩ A0 k0 R0 w' hR0 (hA.bl g)
  generalize R0.length = l0 at *
  go_enter Try.func43, Try.ntmps43
  go_wp2_with fail
  refine (box1 _ hI).mono ?_
  rintro e v1 ⟨rfl, g1⟩
  go_wp2_with fail
  refine (cW _ g1.bl).mono ?_
  rintro e v2 ⟨A, c, R, rfl, hc2, own, hQ, g2⟩
  have hN : R.length ≤ 100000000 := Nat.le_trans (reg_len hQ.reg hQ.inr grid256) (by decide)
  have I2 := hI.bl (g1.bl.trans g2)
  have G2 := (g1.bl.trans g2).byr (some pc)
  have hpc := hI.cs.lt
  have hpm := hI.hd.lt
  have hne := hI.ne
  have h1s := g1.size
  have hin : ∀ x y, hasL R x y = true → InP W H (x, y) := fun x y h => by
    rw [hQ.has, cutL_has] at h
    have h3 := of_decide_eq_true (show decide (0 ≤ x ∧ x < (W : Int) ∧ 0 ≤ y ∧ y < (H : Int)) = true from (Bool.and_eq_true_iff.1 h).1)
    exact ⟨h3.1, h3.2.1, h3.2.2.1, h3.2.2.2⟩
  have hpt : (ptsL R).length ≤ 100000 := pts_len hI.w1 hI.w2 hI.h2 (reg_nodup hQ.reg) (fun p hp => hin p.1 p.2 (ptsL_mem.1 hp))
  have hw1 := hI.w1
  have hLl := hI.len
  replace hQ := Lib.hid hQ
  replace hin := Lib.hid hin
  replace hLl := Lib.hid hLl
  have hv1 : w.heap.size ≤ v1.heap.size := g1.size
  clear cW hA hR0 hI g1 g2 h1s
  go_wp2_with fail
  go_loopw [7, 15] (fun n i wr => ∃ k : Nat, k ≤ R.length ∧ i = .int .i64 k ∧ n = .int .i64 ((ptsL (R.take k)).length : Nat) ∧ Img wr pm pc W H (drawP W (fun _ _ => q) L (ptsL (R.take k))) ∧ OwR wr v1.heap.size A c R ∧ w.grownBy wr (some pc)) (fun _ i _ => R.length - (intOf i).toNat)
  case atStart => exact ⟨0, Nat.zero_le _, rfl, rfl, I2, own, G2⟩
  case round =>
    obtain ⟨k, hk, rfl, rfl, Ik, ow, Gk⟩ := hrel
    by_cases hlt : k < R.length
    · obtain ⟨r, hr⟩ := list_at hlt
      obtain ⟨b, off, rfl, hrow⟩ := ow.rs.opened (by omega)
      obtain ⟨e1, e2, e3, e4⟩ := hrow k r hr
      obtain ⟨x0, y0, x1, y1, hcut, b1, b2, b3, b4, b5, _⟩ := cut_nat r.a r.b r.c r.d W H
      have hrin : ∀ x y, hasB r.a r.b r.c r.d x y = true → InP W H (x, y) := fun x y h => hin.out x y (by unfold hasL; exact List.any_eq_true.2 ⟨r, List.mem_of_getElem? hr, h⟩)
      have hdl := (drawP_len W (fun _ _ => q) (ptsL (R.take k)) L).trans hLl.out
      obtain ⟨hf, ha⟩ := cut_draw (q := q) hdl hw1 hrin hcut b1 b3 b4 b5
      rw [← drawP_app, ← ptsL_succ hr] at hf
      have hlen : (ptsL (R.take (k + 1))).length = (ptsL (R.take k)).length + (rectP r.a r.b (nX r) (nY r)).length := by rw [ptsL_succ hr, List.length_append]
      have hle := ptsL_take R (k + 1)
      obtain ⟨a1, a2⟩ := add_len hlen (by omega)
      rw [← ha] at a1 a2
      have cF := fun (w' : World) (g : Gr wr w') => fill1 w' (Ik.gr g) r.a r.b r.c r.d q hq hm x0 x1 y0 y1 hcut b1 b2 b3 b4 b5
      rw [hf] at cF
      have hlen' := Lib.hid hlen
      clear hf hlen hle ha hcut hrin hdl hr hrow
      generalize areaI x0 y0 x1 y1 = ar at *
      generalize (ptsL (R.take k)).length = m0 at *
      obtain ⟨ra, rb, rc, rd⟩ := r
      dsimp only at *
      go_wp2_with fail
      refine (cF _ ((Gr.refl wr).alloc _)).mono ?_
      rintro e w3 ⟨rfl, b6, I6⟩
      have G6 := by_trans (by_gr Gk ((Gr.refl wr).alloc (.cells #[.int .i64 ra, .int .i64 rb, .int .i64 rc, .int .i64 rd] 24))) b6
      have O6 := (ow.bl ((Bl.refl wr).alloc (.cells #[.int .i64 ra, .int .i64 rb, .int .i64 rc, .int .i64 rd] 24))).by5 b6 (by omega)
      go_wp2
      go_roundw
      case rel => exact ⟨k + 1, by omega, by simp, rfl, I6, O6, G6⟩
      case measure => simp [intOf]; omega
    · obtain rfl : k = R.length := by omega
      rw [List.take_length] at Ik ⊢
      go_wp2
      go_ret
      exact ⟨R, hQ.out, rfl, Gk, Ik⟩

set_option maxRecDepth 100000 in
set_option maxHeartbeats 4000000 in
theorem pclear0 {pm pc W H : Nat} {L : List Int} (q : Int) (A0 : Option Addr) (k0 : Nat) (R0 : List Rc) (w : World) (hq : C32 q) (hm : mayC q = false) (hI : Img w pm pc W H L) (hA : Rs w A0 R0) (hR0 : R0.length ≤ 1000000) :
    Calls Try.prog 43 #[.pointer (some ⟨pm, 0, none⟩), .slice A0 R0.length k0, .int .u32 q] w
      (fun e w' => e = .returned (.int .i64 0) ∧ Bl w w') := by
  have w2 := hI.w2
  have h2 := hI.h2
  have cW := fun (w' : World) (g : Bl w w') => within1 ⟨0, 0, W, H⟩ ⟨by simp, by simp; omega, by simp, by simp; omega⟩ A0 k0 R0 w' hR0 (hA.bl g)
  generalize R0.length = l0 at *
  go_enter Try.func43, Try.ntmps43
  go_wp2_with fail
  refine (box1 _ hI).mono ?_
  rintro e v1 ⟨rfl, g1⟩
  go_wp2_with fail
  refine (cW _ g1.bl).mono ?_
  rintro e v2 ⟨A, c, R, rfl, hc2, own, hQ, g2⟩
  have hN : R.length ≤ 100000000 := Nat.le_trans (reg_len hQ.reg hQ.inr grid256) (by decide)
  have G2 := g1.bl.trans g2
  clear hQ cW hA hR0 g1 g2 w2 h2 hI
  go_wp2_with fail
  go_loopw [7, 15] (fun n i wr => ∃ k : Nat, k ≤ R.length ∧ i = .int .i64 k ∧ n = .int .i64 0 ∧ OwR wr v1.heap.size A c R ∧ Bl w wr) (fun _ i _ => R.length - (intOf i).toNat)
  case atStart => exact ⟨0, Nat.zero_le _, rfl, rfl, own, G2⟩
  case round =>
    obtain ⟨k, hk, rfl, rfl, ow, Gk⟩ := hrel
    by_cases hlt : k < R.length
    · obtain ⟨r, hr⟩ := list_at hlt
      obtain ⟨b, off, rfl, hrow⟩ := ow.rs.opened (by omega)
      obtain ⟨e1, e2, e3, e4⟩ := hrow k r hr
      have cF := fun (w' : World) => fill0 pm w' r.a r.b r.c r.d q hq hm
      clear hr hrow
      obtain ⟨ra, rb, rc, rd⟩ := r
      dsimp only at *
      go_wp2_with fail
      refine (cF _).mono ?_
      rintro e w3 ⟨rfl, g6⟩
      have G6 := (Gk.alloc (.cells #[.int .i64 ra, .int .i64 rb, .int .i64 rc, .int .i64 rd] 24)).gr g6
      have O6 := ow.bl (((Bl.refl wr).alloc (.cells #[.int .i64 ra, .int .i64 rb, .int .i64 rc, .int .i64 rd] 24)).gr g6)
      go_wp2
      go_roundw
      case rel => exact ⟨k + 1, by omega, by simp, rfl, O6, G6⟩
      case measure => simp [intOf]; omega
    · obtain rfl : k = R.length := by omega
      go_wp2
      go_ret
      exact ⟨rfl, Gk⟩

end Go.Proofs.Ytafceieenhogpaa
