/-
  What is proved: what the document's own regions, and Same, hand back.
-/
import Derived.Test.YtafceieenhogpaaRm
import Derived.Test.YtafceieenhogpaaAr
namespace Go.Proofs.Ytafceieenhogpaa
open Go.RowKit Go.Sort

theorem kpN0 : kpN 0 = fun a b => a || b := rfl
theorem kpN1 : kpN 1 = fun a b => a && b := rfl
theorem kpN2 : kpN 2 = fun a b => a && !b := rfl
theorem kpN3 : kpN 3 = fun a b => a != b := rfl
theorem refof1 (A : Option Addr) (c : Nat) (a : List Rc) (X Y : List Int) (w : World) (hA : Rs w A a) (la : a.length ≤ 100000) (hX : Grid X Y) (ia : InNe X Y a) :
    Calls Try.prog 45 #[.slice A a.length c] w (RR w (OfQ X Y a)) := by
  go_enter Try.func45, Try.ntmps45
  go_wp2_with fail
  refine (refmerge1 A none c 0 a [] 0 X Y w hA (.inl rfl) la (by simp) (by omega) hX (fun r hr he => by rw [List.append_nil] at hr; exact ia r hr he)).mono ?_
  rintro e W ⟨A1, c1, L, rfl, o1, q1, g1⟩
  have fin : Hid (OfQ X Y a L) := Lib.hid ⟨q1.reg, q1.inr, fun x y => by rw [q1.has, kpN0]; show (hasL a x y || hasL [] x y) = _; simp [hasL]⟩
  go_wp2
  go_ret
  exact ⟨A1, c1, L, rfl, o1, fin.out, g1⟩
/-- A region near 0, made of any rectangles. -/
structure GdQ (L R : List Rc) : Prop where
  reg : IsReg R
  inr : InR near near R
  has : ∀ x y, hasL R x y = hasL ((L.take 8).map smRc) x y
theorem refgood1 (A : Option Addr) (c : Nat) (L : List Rc) (w : World) (hA : Rs w A L) (hi : I64r L) (hl : L.length ≤ 9223372036854775807) :
    Calls Try.prog 9 #[.slice A L.length c] w (RR w (GdQ L)) := by
  have c1 := refSmall1 A c L 8 w hA hi hl (by omega)
  go_enter Try.func9, Try.ntmps9
  go_wp2_with fail
  refine c1.mono ?_
  rintro e W ⟨A1, c1', M, rfl, o1, q1, g1⟩
  have lM : M.length ≤ 100000 := by rw [q1, List.length_map, List.length_take]; omega
  have iM : InNe near near M := by rw [q1]; exact small_near _
  replace q1 := Lib.hid q1
  clear c1
  go_wp2_with fail
  refine (refof1 A1 c1' M near near W o1.rs lM grid_near iM).mono ?_
  rintro e W2 ⟨A2, c2, R, rfl, o2, q2, g2⟩
  have fin : Hid (GdQ L R) := Lib.hid ⟨q2.reg, q2.inr, fun x y => by rw [q2.has, q1.out]⟩
  have sz := g1.size
  clear q2
  go_wp2
  go_ret
  exact ⟨A2, c2, R, rfl, own_mono o2 sz, fin.out, g1.trans g2⟩
theorem refsame1t (A B : Option Addr) (c d : Nat) (L M : List Rc) (w : World) (hA : Rs w A L) (hB : Rs w B M) (hl : L.length ≤ 9000000000000000000) (h : L = M) :
    Calls Try.prog 53 #[.slice A L.length c, .slice B M.length d] w (Rt w (.bool true)) := by
  have := refSame1 A B c d L M w hA hB hl (by rw [← h]; exact hl)
  rw [decide_eq_true h] at this
  exact this
theorem reg_len {X Y : List Int} {R : List Rc} (h : IsReg R) (hi : InR X Y R) (hX : Grid X Y) : R.length ≤ 1000000 := by
  obtain ⟨gb, eb⟩ := h.bands
  have h1 := rects_len gb.toWk (InR.bands gb (by rw [eb]; exact hi))
  rw [eb] at h1
  exact Nat.le_trans h1 (Nat.le_trans (Nat.mul_le_mul hX.y hX.x) (by omega))
/-- Two regions with the same points. -/
theorem reg_same {L M : List Rc} (hL : IsReg L) (hM : IsReg M) (h : ∀ x y, hasL L x y = hasL M x y) : L = M :=
  reg_ext hL hM fun x y => by rw [← hasL_iff, ← hasL_iff, h]

end Go.Proofs.Ytafceieenhogpaa
