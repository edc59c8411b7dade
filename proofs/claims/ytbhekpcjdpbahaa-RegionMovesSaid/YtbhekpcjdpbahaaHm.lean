/-
  What is proved: what the rectangle round a region is. No conditions.
-/
import Derived.Test.YtbhekpcjdpbahaaMa
import Derived.Test.YtbhekpcjdpbahaaKp
import Derived.StillTailTactics
namespace Go.Proofs.Ytbhekpcjdpbahaa
open Go.ChangeShapes Go.WideShapes Go.ChangeAt Go.RowKit Go.Joins Go.Sort Go.Deep

theorem OwR.capm4 {w : World} {B : Nat} {A : Option Addr} {c : Nat} {L : List Rc} (h : OwR w B A c L) : c ≤ 9223372036854775807 := by
  rcases h.2 with ⟨h1, h2⟩ | ⟨g, cap, cur, h1, _, _, _, h4, _⟩
  · injection h1 with a b c'; omega
  · injection h1 with a b c'; unfold maxLen at h4; omega
theorem OwR.nilz {w : World} {B : Nat} {A : Option Addr} {c : Nat} {L : List Rc} (h : OwR w B A c L) (hA : A = none) : L = [] := by
  rcases h.addr with ⟨_, _, h1⟩ | ⟨g, h1, _⟩
  · exact h1
  · rw [hA] at h1; cases h1
/-- What the least rectangle round rectangles that have points is. -/
structure HullQ (f : Nat → Rc) (k : Nat) (H : Rc) : Prop where
  a : ∃ i, i ≤ k ∧ (f i).a = H.a
  b : ∃ i, i ≤ k ∧ (f i).b = H.b
  c : ∃ i, i ≤ k ∧ (f i).c = H.c
  d : ∃ i, i ≤ k ∧ (f i).d = H.d
  le : ∀ i, i ≤ k → H.a ≤ (f i).a ∧ H.b ≤ (f i).b ∧ (f i).c ≤ H.c ∧ (f i).d ≤ H.d
def PtR (r : Rc) : Prop := r.a < r.c ∧ r.b < r.d
theorem PtR.ne {r : Rc} (h : PtR r) : emptyB r.a r.b r.c r.d = false := by
  unfold PtR at h; unfold emptyB; simp; omega
theorem hull_q (f : Nat → Rc) : ∀ k, (∀ i, i ≤ k → PtR (f i)) → HullQ f k (hullR f (k + 1))
  | 0, h => by
    have e : hullR f 1 = f 0 := by
      rw [hullR_succ, hullR_zero]
      unfold stepR
      rw [if_neg (by rw [(h 0 (by omega)).ne]; simp)]
      unfold joinR
      rw [if_pos ⟨rfl, rfl, rfl, rfl⟩]
    rw [e]
    refine ⟨⟨0, by omega, rfl⟩, ⟨0, by omega, rfl⟩, ⟨0, by omega, rfl⟩, ⟨0, by omega, rfl⟩, fun i hi => ?_⟩
    obtain rfl : i = 0 := by omega
    omega
  | k + 1, h => by
    have ih := hull_q f k (fun i hi => h i (by omega))
    have hp := h (k + 1) (by omega)
    rw [hullR_succ]
    generalize hullR f (k + 1) = H at *
    have h0 := ih.le 0 (by omega)
    have hp0 := h 0 (by omega)
    have e : stepR H (f (k + 1)) = ⟨min H.a (f (k + 1)).a, min H.b (f (k + 1)).b, max H.c (f (k + 1)).c, max H.d (f (k + 1)).d⟩ := by
      unfold stepR
      rw [if_neg (by rw [hp.ne]; simp)]
      unfold joinR
      rw [if_neg (by unfold PtR at hp0; omega)]
    rw [e]
    obtain ⟨ia, ha1, ha2⟩ := ih.a
    obtain ⟨ib, hb1, hb2⟩ := ih.b
    obtain ⟨ic, hc1, hc2⟩ := ih.c
    obtain ⟨id, hd1, hd2⟩ := ih.d
    refine ⟨?_, ?_, ?_, ?_, fun i hi => ?_⟩
    · rcases Int.le_total H.a (f (k + 1)).a with hl | hl
      · exact ⟨ia, by omega, by dsimp only; omega⟩
      · exact ⟨k + 1, by omega, by dsimp only; omega⟩
    · rcases Int.le_total H.b (f (k + 1)).b with hl | hl
      · exact ⟨ib, by omega, by dsimp only; omega⟩
      · exact ⟨k + 1, by omega, by dsimp only; omega⟩
    · rcases Int.le_total H.c (f (k + 1)).c with hl | hl
      · exact ⟨k + 1, by omega, by dsimp only; omega⟩
      · exact ⟨ic, by omega, by dsimp only; omega⟩
    · rcases Int.le_total H.d (f (k + 1)).d with hl | hl
      · exact ⟨k + 1, by omega, by dsimp only; omega⟩
      · exact ⟨id, by omega, by dsimp only; omega⟩
    · dsimp only
      rcases Nat.lt_or_ge i (k + 1) with hl | hl
      · have := ih.le i (by omega); omega
      · obtain rfl : i = k + 1 := by omega
        omega
theorem reg_pts {B : List Bn} (hB : Gd B) {i : Nat} {r : Rc} (h : (rectsL B)[i]? = some r) : PtR r := rects_ne hB.toWk r (List.mem_of_getElem? h)
theorem reg_sorted {B : List Bn} (hB : Gd B) {i : Nat} {p : Rc} (hp : (rectsL B)[i]? = some p) : ∀ n (r : Rc), (rectsL B)[i + n]? = some r → p.b ≤ r.b ∧ p.d ≤ r.d
  | 0, r, hr => by
    rw [Nat.add_zero, hp] at hr
    injection hr with hr
    subst hr
    exact ⟨Int.le_refl _, Int.le_refl _⟩
  | n + 1, r, hr => by
    obtain ⟨q, hq⟩ := list_at (l := rectsL B) (k := i + n) (by have := get_lt hr; omega)
    have ih := reg_sorted hB hp n q hq
    have hf := reg_flw hB hq hr
    have h1 := reg_pts hB hq
    have h2 := reg_pts hB hr
    unfold PtR at h1 h2
    unfold flwB at hf
    split at hf
    · rename_i h; omega
    · simp at hf; omega

/-- The hull of a region. -/
structure HlQ (L : List Rc) (H : Rc) : Prop where
  left : ∃ r ∈ L, r.a = H.a
  right : ∃ r ∈ L, r.c = H.c
  top : ∀ r, L[0]? = some r → r.b = H.b
  low : ∀ r, L[L.length - 1]? = some r → r.d = H.d
  inn : ∀ r ∈ L, H.a ≤ r.a ∧ H.b ≤ r.b ∧ r.c ≤ H.c ∧ r.d ≤ H.d
  pt : PtR H
  mem : ∀ X Y, InR X Y L → InR X Y [H]
theorem hl_q {B : List Bn} (hB : Gd B) (h0 : 0 < (rectsL B).length) : HlQ (rectsL B) (hullR (fun k => (rectsL B).getD k ⟨0, 0, 0, 0⟩) (rectsL B).length) := by
  obtain ⟨n, hn⟩ : ∃ n, (rectsL B).length = n + 1 := ⟨(rectsL B).length - 1, by omega⟩
  have hg : ∀ (i : Nat) (r : Rc), (rectsL B)[i]? = some r → (rectsL B).getD i ⟨0, 0, 0, 0⟩ = r := fun i r h => by simp [List.getD, h]
  have hx : ∀ i, i ≤ n → ∃ r, (rectsL B)[i]? = some r ∧ (rectsL B).getD i ⟨0, 0, 0, 0⟩ = r := fun i hi => by
    obtain ⟨r, hr⟩ := list_at (l := rectsL B) (k := i) (by omega)
    exact ⟨r, hr, hg i r hr⟩
  have q := hull_q (fun k => (rectsL B).getD k ⟨0, 0, 0, 0⟩) n (fun i hi => by
    obtain ⟨r, hr, e⟩ := hx i hi
    show PtR ((rectsL B).getD i ⟨0, 0, 0, 0⟩)
    rw [e]; exact reg_pts hB hr)
  rw [hn]
  generalize hullR (fun k => (rectsL B).getD k ⟨0, 0, 0, 0⟩) (n + 1) = H at *
  obtain ⟨ia, ha1, ha2⟩ := q.a
  obtain ⟨ib, hb1, hb2⟩ := q.b
  obtain ⟨ic, hc1, hc2⟩ := q.c
  obtain ⟨id, hd1, hd2⟩ := q.d
  obtain ⟨ra, hra, ea⟩ := hx ia ha1
  obtain ⟨rb, hrb, eb⟩ := hx ib hb1
  obtain ⟨rc, hrc, ec⟩ := hx ic hc1
  obtain ⟨rd, hrd, ed⟩ := hx id hd1
  rw [ea] at ha2
  rw [eb] at hb2
  rw [ec] at hc2
  rw [ed] at hd2
  have hle : ∀ (i : Nat) (r : Rc), (rectsL B)[i]? = some r → H.a ≤ r.a ∧ H.b ≤ r.b ∧ r.c ≤ H.c ∧ r.d ≤ H.d := fun i r hr => by
    have := q.le i (by have := get_lt hr; omega)
    rw [hg i r hr] at this; exact this
  refine ⟨⟨ra, List.mem_of_getElem? hra, ha2⟩, ⟨rc, List.mem_of_getElem? hrc, hc2⟩, fun r hr => ?_, fun r hr => ?_, fun r hr => ?_, ?_, fun X Y hi => ?_⟩
  · have h1 := reg_sorted hB hr ib rb (by rw [Nat.zero_add]; exact hrb)
    have h2 := hle 0 r hr
    omega
  · rw [hn, show n + 1 - 1 = n from by omega] at hr
    have h1 := reg_sorted hB hrd (n - id) r (by rw [show id + (n - id) = n from by omega]; exact hr)
    have h2 := hle n r hr
    omega
  · obtain ⟨i, hi, e⟩ := List.getElem_of_mem hr
    exact hle i r (by rw [List.getElem?_eq_getElem hi, e])
  · have h1 := reg_pts hB hra
    have h2 := hle ia ra hra
    unfold PtR at *
    omega
  · intro r hr
    simp at hr
    subst hr
    have m1 := hi ra (List.mem_of_getElem? hra)
    have m2 := hi rb (List.mem_of_getElem? hrb)
    have m3 := hi rc (List.mem_of_getElem? hrc)
    have m4 := hi rd (List.mem_of_getElem? hrd)
    rw [← ha2, ← hb2, ← hc2, ← hd2]
    exact ⟨m1.1, m3.2.1, m2.2.2.1, m4.2.2.2⟩
theorem pt_reg {H : Rc} (h : PtR H) : IsReg [H] := by
  have := neL_reg (L := [H]) (by simp)
  unfold neL at this
  simpa [h.ne] using this
theorem hl_cov {L : List Rc} {H : Rc} (q : HlQ L H) (x y : Int) : hasL [] x y = (hasL L x y && !hasL [H] x y) := by
  have e : hasL [H] x y = hasB H.a H.b H.c H.d x y := by unfold hasL; simp
  rw [e]
  cases h : hasL L x y
  · rfl
  · unfold hasL at h
    rw [List.any_eq_true] at h
    obtain ⟨r, hr, h1⟩ := h
    have := q.inn r hr
    have h2 : hasB H.a H.b H.c H.d x y = true := by
      unfold hasB at *
      simp only [decide_eq_true_eq] at *
      omega
    rw [h2]; rfl
def lf (f : Rc → Int) (z : Int) (L : List Rc) (k : Nat) : Bool := (L.take k).any fun r => f r == z
theorem lf_more {f : Rc → Int} {z : Int} {L : List Rc} {k : Nat} {r : Rc} (h : L[k]? = some r) : lf f z L (k + 1) = (lf f z L k || (f r == z)) := by
  unfold lf
  rw [take_more h, List.any_append]
  simp
theorem lf_all {f : Rc → Int} {z : Int} {L : List Rc} (h : ∃ r ∈ L, f r = z) : lf f z L L.length = true := by
  obtain ⟨r, h1, h2⟩ := h
  unfold lf
  rw [List.take_length, List.any_eq_true]
  exact ⟨r, h1, by simp [h2]⟩

end Go.Proofs.Ytbhekpcjdpbahaa
