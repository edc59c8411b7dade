/-
  What is proved: what the comparisons of rows of ints, and of bands, hand back.
-/
import Derived.Test.YtafceieenhogpaaE
import Derived.Test.YtafceieenhogpaaSh
namespace Go.Proofs.Ytafceieenhogpaa
open Go.RowKit Go.Sort

theorem Gr.drawn (w : World) (q : Nat) : Gr w (w.drewN q) := (Gr.refl w).drewN q

theorem equalI (A B : Option Addr) (c d : Nat) (a b : List Int) (w : World) (hA : Is w A a) (hB : Is w B b) (hla : a.length ≤ 9223372036854775807) (hlb : b.length ≤ 9223372036854775807) :
    Calls Try.prog 87 #[.slice A a.length c, .slice B b.length d] w (Rt w (.bool (decide (a = b)))) := by
  by_cases hn : a.length = b.length
  · by_cases h0 : a.length = 0
    · have : a = [] := List.eq_nil_of_length_eq_zero h0
      subst this
      have : b = [] := List.eq_nil_of_length_eq_zero (by simp at hn; omega)
      subst this
      exact (sh_Equal_empty A B c 0 d w (by simp)).mono fun e w' ⟨h1, h2⟩ => ⟨h1, by rw [h2]; exact Gr.refl w⟩
    · obtain ⟨b1, o1, rfl, r1⟩ := hA.opened (by omega)
      obtain ⟨b2, o2, rfl, r2⟩ := hB.opened (by omega)
      refine (sh_Equal b1 o1 a.length c b2 o2 b.length d a b w (Nat.le_refl _) (Nat.le_refl _) hla hlb (fun j hj => ?_) (fun j hj => ?_)).mono ?_
      · rw [r1 j a[j] (List.getElem?_eq_getElem hj)]; simp [hj]
      · rw [r2 j b[j] (List.getElem?_eq_getElem hj)]; simp [hj]
      · rintro e w' ⟨rfl, ⟨q, rfl⟩⟩
        refine ⟨?_, Gr.drawn w q⟩
        rw [List.take_length, List.take_length]
        congr 2
        rw [Bool.eq_iff_iff]; simp
  · refine (sh_Equal_lens A B a.length c b.length d w hn).mono ?_
    rintro e w' ⟨rfl, rfl⟩
    refine ⟨?_, Gr.refl _⟩
    have : ¬ a = b := fun h => hn (by rw [h])
    simp [this]

def goesB (a b : Bn) : Bool := decide (a.y1 = b.y0 ∧ a.E = b.E)

set_option maxHeartbeats 1000000 in
theorem goesOn1 (p q : BW) (w : World) (hp : p.ok w) (hq : q.ok w) (hlp : p.E.length ≤ 9223372036854775807) (hlq : q.E.length ≤ 9223372036854775807) :
    Calls Try.prog 49 #[.agg #[.int .i64 p.y0, .int .i64 p.y1, .slice p.A p.E.length p.c], .agg #[.int .i64 q.y0, .int .i64 q.y1, .slice q.A q.E.length q.c]] w (Rt w (.bool (goesB p.bn q.bn))) := by
  by_cases h : p.y1 = q.y0
  · have hb : goesB p.bn q.bn = decide (p.E = q.E) := by unfold goesB; simp [BW.bn, h]
    rw [hb]
    have HB := Lib.hid hb
    clear hb
    have h1 : (p.y1 == q.y0) = true := by simpa using h
    replace h := Lib.hid h
    go_enter Try.func49, Try.ntmps49
    go_wp2_with fail
    refine (equalI _ _ _ _ _ _ _ (hp.2.bl (((Bl.refl w).alloc _).alloc _)) (hq.2.bl (((Bl.refl w).alloc _).alloc _)) hlp hlq).mono ?_
    rintro e W1 ⟨rfl, g1⟩
    go_wp2
    go_ret
    exact ⟨rfl, (((Gr.refl w).alloc _).alloc _).trans g1⟩
  · have hb : goesB p.bn q.bn = false := by unfold goesB; simp [BW.bn, h]
    rw [hb]
    have h1 : (p.y1 == q.y0) = false := by simpa using h
    go_enter Try.func49, Try.ntmps49
    go_wp2
    go_ret
    exact ⟨rfl, ((Gr.refl w).alloc _).alloc _⟩

end Go.Proofs.Ytafceieenhogpaa
