/-
  What is proved: what Copy of package image does, written out for another image and for itself; what At at any point, and Copy, of the document's images hand back. No conditions but bounds.
-/
import Derived.Test.YtackojmckloacaaJw
import Derived.Test.YtackojmckloacaaJv
namespace Go.Proofs.Ytackojmckloacaa
open Go.RowKit Go.Sort Go.Deep

attribute [local go_sem ↓] run_min2 run_max2

def clN (n : Int) : Int := min (max n (-1048576)) 1048576
def cpL (W W2 H2 : Nat) (a b c d dx dy : Int) (L L2 : List Int) : List Int := upto (cpF W W2 H2 a b c d (clN dx) (clN dy) L L2) L.length
def cpN (W H W2 H2 : Nat) (a b c d dx dy : Int) : Int := ((cntI (cpP W W2 H2 a b c d (clN dx) (clN dy)) (W * H) : Nat) : Int)

theorem copyOther {pm pc W H pm2 pc2 W2 H2 : Nat} {L L2 : List Int} (w : World) (hI : Img w pm pc W H L) (hJ : Img w pm2 pc2 W2 H2 L2) (hne : pc ≠ pm2 ∧ pc ≠ pc2) (a b c d dx dy : Int) :
    Calls Try.prog 11 #[.pointer (some ⟨pm, 0, none⟩), .pointer (some ⟨pm2, 0, none⟩), .agg #[.int .i64 a, .int .i64 b, .int .i64 c, .int .i64 d], .int .i64 dx, .int .i64 dy] w
      (fun e w' => e = .returned (.int .i64 (cpN W H W2 H2 a b c d dx dy)) ∧ w.grownBy w' (some pc) ∧ Img w' pm pc W H (cpL W W2 H2 a b c d dx dy L L2)) := by
  obtain ⟨a0, b0, a1, b1, hc1, ha, hab, haw, hbb, hbh, hpt1⟩ := cut_nat a b c d W2 H2
  obtain ⟨x0, y0, x1, y1, u0, v0, hc2, hx0, hxx, hyy, hxw, hyh, hu, hpt2⟩ := cut_shift a0 b0 a1 b1 W H W2 H2 (clN dx) (clN dy) ha hbb haw hbh hab hI.w1 hI.h1
  refine (copyG w hI hJ a b c d dx dy (clN dx) (clN dy) rfl rfl x0 y0 x1 y1 u0 v0 _ hc1 hc2 hx0 hxx hyy hxw hyh hu (fun V => Img V pm2 pc2 W2 H2 L2) hJ (fun V V' h g => h.kept g (by simp; omega) (by simp; omega)) (fun V ts h _ => h.hd)
    (fun V ts t h _ _ _ j x hj => h.at (by rw [List.getElem?_take] at hj; split at hj; rw [List.getElem?_drop] at hj; exact hj; cases hj))).mono ?_
  rintro e w' ⟨ts, rfl, g, I, hts⟩
  rw [cp_eq hI.len hJ.len hI.w1 haw hbh hxx hxw hyh (fun h => ⟨(hu h).1, (hu h).2.1, (hu h).2.2.1⟩) hts hpt1 hpt2] at I
  refine ⟨?_, g, I⟩
  unfold cpN
  rw [cp_cnt hI.w1 haw hbh hx0 hyy (fun h => ⟨(hu h).2.2.1, (hu h).2.2.2⟩) hpt1 hpt2]

theorem cp_row {W x0 y0 x1 y1 u0 v0 t : Nat} {dy dx : Int} {L : List Int} {ts : List Nat} (w1 : 1 ≤ W) (ht : t < y1 - y0) (hxx : x0 < x1) (hL : ∀ y, y < y1 → y * W + x1 ≤ L.length)
    (hu : (u0 : Int) = x0 + dx ∧ (v0 : Int) = y0 + dy ∧ u0 + (x1 - x0) ≤ W) (hxw : x1 ≤ W) (hts : ∀ s, s ∈ ts ↔ s < y1 - y0 ∧ ((0 < dy ∧ t < s) ∨ (dy ≤ 0 ∧ s < t))) (j : Nat) (hj : j < x1 - x0) :
    (cpAll W W u0 v0 x0 y0 (x1 - x0) L L ts)[(y0 + t) * W + x0 + j]? = L[(y0 + t) * W + x0 + j]? := by
  obtain ⟨u1, u2, u3⟩ := hu
  rw [cpAll_get (h := y1 - y0) w1 u3 (fun s hs => by have := hL (y0 + s) (by omega); omega) ts L _ (fun s hs => ((hts s).1 hs).1)]
  rw [if_neg]
  rintro ⟨q1, q2, q3, q4, q5⟩
  have e : ((y0 + t) * W + x0 + j) / W = y0 + t := by
    rw [Nat.add_assoc, Nat.mul_comm, Nat.mul_add_div (by omega), Nat.div_eq_of_lt (by omega), Nat.add_zero]
  rw [e] at q4 q5
  have := (hts _).1 q5
  omega

theorem copySelf {pm pc W H : Nat} {L : List Int} (w : World) (hI : Img w pm pc W H L) (a b c d dx dy : Int) :
    Calls Try.prog 11 #[.pointer (some ⟨pm, 0, none⟩), .pointer (some ⟨pm, 0, none⟩), .agg #[.int .i64 a, .int .i64 b, .int .i64 c, .int .i64 d], .int .i64 dx, .int .i64 dy] w
      (fun e w' => e = .returned (.int .i64 (cpN W H W H a b c d dx dy)) ∧ w.grownBy w' (some pc) ∧ Img w' pm pc W H (cpL W W H a b c d dx dy L L)) := by
  obtain ⟨a0, b0, a1, b1, hc1, ha, hab, haw, hbb, hbh, hpt1⟩ := cut_nat a b c d W H
  obtain ⟨x0, y0, x1, y1, u0, v0, hc2, hx0, hxx, hyy, hxw, hyh, hu, hpt2⟩ := cut_shift a0 b0 a1 b1 W H W H (clN dx) (clN dy) ha hbb haw hbh hab hI.w1 hI.h1
  have hrow := row_in hI.len hxw hyh
  refine (copyG w hI hI a b c d dx dy (clN dx) (clN dy) rfl rfl x0 y0 x1 y1 u0 v0 _ hc1 hc2 hx0 hxx hyy hxw hyh hu (fun _ => True) trivial (fun _ _ _ _ => trivial) (fun V ts _ h => by have := h.hd; rwa [cpAll_len] at this)
    (fun V ts t _ h ht hts j x hj => ?_)).mono ?_
  · have hxx1 := hxx (by omega)
    obtain ⟨u1, u2, u3, u4⟩ := hu (by omega)
    rw [List.getElem?_take] at hj
    split at hj
    · rename_i hjm
      rw [List.getElem?_drop] at hj
      refine h.at ?_
      rw [cp_row (dx := clN dx) hI.w1 ht hxx1 hrow ⟨u1, u2, u3⟩ hxw hts j hjm]; exact hj
    · cases hj
  rintro e w' ⟨ts, rfl, g, I, hts⟩
  rw [cp_eq hI.len hI.len hI.w1 haw hbh hxx hxw hyh (fun h => ⟨(hu h).1, (hu h).2.1, (hu h).2.2.1⟩) hts hpt1 hpt2] at I
  refine ⟨?_, g, I⟩
  unfold cpN
  rw [cp_cnt hI.w1 haw hbh hx0 hyy (fun h => ⟨(hu h).2.2.1, (hu h).2.2.2⟩) hpt1 hpt2]

theorem wrap_sub {i : Nat} {d : Int} (h : i ≤ 65536) (hd : -1048576 ≤ d ∧ d ≤ 1048576) : IntKind.i64.wrap ((i : Int) - d) = (i : Int) - d := IntWalk.i64_in _ (by omega)
theorem wrap_sub2 {i : Nat} {d : Int} (h : i ≤ 65536) (hd : -1048576 ≤ d ∧ d ≤ 1048576) : wrap64 ((i : Int) - d) = (i : Int) - d := by unfold wrap64; omega
def atW (W H : Nat) (L : List Int) (x y : Int) : Int := if hasB 0 0 W H x y = true then L.getD (y.toNat * W + x.toNat) 0 else 0
theorem refAtW {W H b c : Nat} {L : List Int} (w : World) (hR : RowN .u32 w b 0 L) (hl : L.length = W * H) (w2 : W ≤ 256) (h2 : H ≤ 256) (x y : Int) :
    Calls Try.prog 20 #[.agg #[.int .i64 W, .int .i64 H, .slice (some ⟨b, 0, none⟩) L.length c], .int .i64 x, .int .i64 y] w (Rt w (.tuple #[.int .u32 (atW W H L x y), .bool (hasB 0 0 W H x y)])) := by
  cases h : hasB 0 0 W H x y
  · unfold atW; rw [h, if_neg (by simp)]; exact refAt0 w x y h
  · have h' := h
    simp [hasB] at h'
    obtain ⟨i, hi⟩ : ∃ i : Nat, x = (i : Int) := ⟨x.toNat, by omega⟩
    obtain ⟨j, hj⟩ : ∃ j : Nat, y = (j : Int) := ⟨y.toNat, by omega⟩
    subst hi hj
    have hk : j * W + i < L.length := by rw [hl]; exact row_of (by omega) (by omega)
    unfold atW; rw [h, if_pos rfl]
    exact refAt1 w hR hl w2 h2 i j (by omega) (by omega) _ (by rw [Int.toNat_natCast, Int.toNat_natCast, List.getD_eq_getElem?_getD, List.getElem?_eq_getElem hk]; rfl)

end Go.Proofs.Ytackojmckloacaa
