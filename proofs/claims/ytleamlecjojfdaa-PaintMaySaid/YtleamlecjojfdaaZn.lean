/-
  What is proved: plain facts on the points of a list of rectangles, told one by one, and on a list of colors of which some are drawn over. No conditions.
-/
import Derived.Test.YtleamlecjojfdaaZh
import Derived.Test.YtleamlecjojfdaaZj
namespace Go.Proofs.Ytleamlecjojfdaa
open Go.RowKit Go.Sort

/-- n points from a on, in row y; ny such rows; all points of rectangles. -/
def rowP (a : Int) (n : Nat) (y : Int) : List (Int × Int) := (List.range n).map fun (i : Nat) => (a + (i : Int), y)
def rectP (a b : Int) (nx ny : Nat) : List (Int × Int) := (List.range ny).flatMap fun (j : Nat) => rowP a nx (b + (j : Int))
def nX (r : Rc) : Nat := (r.c - r.a).toNat
def nY (r : Rc) : Nat := (r.d - r.b).toNat
def ptsL (R : List Rc) : List (Int × Int) := R.flatMap fun r => rectP r.a r.b (nX r) (nY r)
theorem rowP_succ (a : Int) (n : Nat) (y : Int) : rowP a (n + 1) y = rowP a n y ++ [(a + (n : Int), y)] := by simp [rowP, List.range_succ]
theorem rectP_succ (a b : Int) (nx ny : Nat) : rectP a b nx (ny + 1) = rectP a b nx ny ++ rowP a nx (b + (ny : Int)) := by simp [rectP, List.range_succ]
theorem ptsL_succ {R : List Rc} {k : Nat} {r : Rc} (h : R[k]? = some r) : ptsL (R.take (k + 1)) = ptsL (R.take k) ++ rectP r.a r.b (nX r) (nY r) := by
  rw [List.take_add_one, h]; simp [ptsL]
theorem rowP_mem {a : Int} {n : Nat} {y : Int} {p : Int × Int} : p ∈ rowP a n y ↔ a ≤ p.1 ∧ p.1 < a + (n : Int) ∧ p.2 = y := by
  unfold rowP
  rw [List.mem_map]
  constructor
  · rintro ⟨i, hi, rfl⟩
    rw [List.mem_range] at hi
    simp; omega
  · rintro ⟨h1, h2, h3⟩
    refine ⟨(p.1 - a).toNat, by rw [List.mem_range]; omega, ?_⟩
    obtain ⟨p1, p2⟩ := p
    simp at *
    omega
theorem rectP_mem {a b : Int} {nx ny : Nat} {p : Int × Int} : p ∈ rectP a b nx ny ↔ a ≤ p.1 ∧ p.1 < a + (nx : Int) ∧ b ≤ p.2 ∧ p.2 < b + (ny : Int) := by
  unfold rectP
  rw [List.mem_flatMap]
  constructor
  · rintro ⟨j, hj, h⟩
    rw [List.mem_range] at hj
    rw [rowP_mem] at h
    omega
  · rintro ⟨h1, h2, h3, h4⟩
    refine ⟨(p.2 - b).toNat, by rw [List.mem_range]; omega, ?_⟩
    rw [rowP_mem]; omega
theorem ptsL_mem {R : List Rc} {p : Int × Int} : p ∈ ptsL R ↔ hasL R p.1 p.2 = true := by
  unfold ptsL hasL
  rw [List.mem_flatMap, List.any_eq_true]
  constructor
  · rintro ⟨r, hr, h⟩
    rw [rectP_mem] at h
    refine ⟨r, hr, ?_⟩
    unfold nX nY at h; unfold hasB; simp; omega
  · rintro ⟨r, hr, h⟩
    refine ⟨r, hr, ?_⟩
    rw [rectP_mem]
    unfold hasB at h; simp at h; unfold nX nY; omega
theorem rowP_nodup (a : Int) (n : Nat) (y : Int) : (rowP a n y).Nodup := by
  unfold rowP
  refine List.Pairwise.map _ ?_ (List.nodup_range (n := n))
  intro i j h e
  injection e with e1 e2
  omega
theorem rectP_nodup (a b : Int) (nx : Nat) : ∀ ny, (rectP a b nx ny).Nodup
  | 0 => by simp [rectP]
  | ny + 1 => by
    rw [rectP_succ, List.nodup_append]
    refine ⟨rectP_nodup a b nx ny, rowP_nodup _ _ _, ?_⟩
    intro p hp q hq e
    subst e
    rw [rectP_mem] at hp; rw [rowP_mem] at hq
    omega
theorem ptsL_nodup : ∀ {R : List Rc}, Apart R → (ptsL R).Nodup
  | [], _ => by simp [ptsL]
  | r :: l, h => by
    obtain ⟨h1, h2⟩ := List.pairwise_cons.1 h
    show (rectP r.a r.b (nX r) (nY r) ++ ptsL l).Nodup
    rw [List.nodup_append]
    refine ⟨rectP_nodup _ _ _ _, ptsL_nodup h2, ?_⟩
    intro p hp q hq e
    subst e
    rw [rectP_mem] at hp; rw [ptsL_mem] at hq
    unfold hasL at hq
    rw [List.any_eq_true] at hq
    obtain ⟨s, hs, hq⟩ := hq
    refine h1 s hs p.1 p.2 ⟨?_, hq⟩
    unfold nX nY at hp; unfold hasB; simp; omega
theorem reg_nodup {R : List Rc} (h : IsReg R) : (ptsL R).Nodup := by
  obtain ⟨B, hB, rfl⟩ := h
  exact ptsL_nodup (rects_apart hB.toWk)
theorem rowP_len (a : Int) (n : Nat) (y : Int) : (rowP a n y).length = n := by simp [rowP]
theorem rectP_len (a b : Int) (nx : Nat) : ∀ ny, (rectP a b nx ny).length = ny * nx
  | 0 => by simp [rectP]
  | ny + 1 => by rw [rectP_succ, List.length_append, rectP_len a b nx ny, rowP_len, Nat.add_mul, Nat.one_mul]

/-- The place of a point in a list of rows of W. -/
def ixP (W : Nat) (p : Int × Int) : Nat := (p.2 * W + p.1).toNat
theorem ixP_nat (W i j : Nat) : ixP W ((i : Int), (j : Int)) = j * W + i := by
  unfold ixP
  have : ((j : Int) * (W : Int) + (i : Int)) = ((j * W + i : Nat) : Int) := by rw [Int.natCast_add, Int.natCast_mul]
  simp only [this, Int.toNat_natCast]
/-- Values put in at points, one by one, each of what stands there. -/
def drawP (W : Nat) (f : Int × Int → Int → Int) (L : List Int) (ps : List (Int × Int)) : List Int := ps.foldl (fun L p => L.set (ixP W p) (f p (L.getD (ixP W p) 0))) L
theorem drawP_snoc (W : Nat) (f : Int × Int → Int → Int) (L : List Int) (ps : List (Int × Int)) (p : Int × Int) : drawP W f L (ps ++ [p]) = (drawP W f L ps).set (ixP W p) (f p ((drawP W f L ps).getD (ixP W p) 0)) := by simp [drawP]
theorem drawP_len (W : Nat) (f : Int × Int → Int → Int) : ∀ (ps : List (Int × Int)) (L : List Int), (drawP W f L ps).length = L.length
  | [], _ => rfl
  | p :: ps, L => by
    show (drawP W f (L.set _ _) ps).length = _
    rw [drawP_len W f ps]; simp
/-- A point of an image of W by H. -/
def InP (W H : Nat) (p : Int × Int) : Prop := 0 ≤ p.1 ∧ p.1 < (W : Int) ∧ 0 ≤ p.2 ∧ p.2 < (H : Int)
theorem InP.nat {W H : Nat} {p : Int × Int} (h : InP W H p) : ∃ i j : Nat, p = ((i : Int), (j : Int)) ∧ i < W ∧ j < H := by
  obtain ⟨h1, h2, h3, h4⟩ := h
  refine ⟨p.1.toNat, p.2.toNat, ?_, by omega, by omega⟩
  obtain ⟨a, b⟩ := p
  simp at *; omega
theorem ixP_inj {W H : Nat} {p q : Int × Int} (hp : InP W H p) (hq : InP W H q) (h : ixP W p = ixP W q) : p = q := by
  obtain ⟨i, j, rfl, h1, h2⟩ := hp.nat
  obtain ⟨i', j', rfl, h3, h4⟩ := hq.nat
  rw [ixP_nat, ixP_nat] at h
  have e1 : (j * W + i) % W = i := by rw [Nat.mul_comm, Nat.mul_add_mod]; exact Nat.mod_eq_of_lt h1
  have e2 : (j' * W + i') % W = i' := by rw [Nat.mul_comm, Nat.mul_add_mod]; exact Nat.mod_eq_of_lt h3
  rw [h] at e1
  have e3 : i = i' := by omega
  subst e3
  have e4 : j * W = j' * W := by omega
  have e5 : j = j' := Nat.eq_of_mul_eq_mul_right (by omega) e4
  rw [e5]
theorem drawP_get (W H : Nat) (f : Int × Int → Int → Int) : ∀ (ps : List (Int × Int)) (L : List Int), (∀ p ∈ ps, InP W H p) → ps.Nodup → ∀ p, InP W H p →
    (drawP W f L ps)[ixP W p]? = if p ∈ ps then L[ixP W p]?.map (f p) else L[ixP W p]?
  | [], L, _, _, p, _ => by simp [drawP]
  | q :: ps, L, hi, hn, p, hp => by
    show (drawP W f (L.set (ixP W q) (f q (L.getD (ixP W q) 0))) ps)[ixP W p]? = _
    obtain ⟨n1, n2⟩ := List.nodup_cons.1 hn
    rw [drawP_get W H f ps _ (fun r hr => hi r (by simp [hr])) n2 p hp, List.getElem?_set]
    by_cases hpq : q = p
    · subst hpq
      rw [if_neg n1, if_pos rfl, if_pos (show q ∈ q :: ps from List.mem_cons_self)]
      by_cases hl : ixP W q < L.length
      · rw [if_pos hl, List.getElem?_eq_getElem hl]; simp [List.getD, List.getElem?_eq_getElem hl]
      · rw [if_neg hl, List.getElem?_eq_none (by omega)]; rfl
    · have hne : ¬ ixP W q = ixP W p := fun e => hpq (ixP_inj (hi q (by simp)) hp e)
      rw [if_neg hne]
      have : (p ∈ q :: ps) ↔ p ∈ ps := by
        rw [List.mem_cons]
        exact ⟨fun h => h.elim (fun e => absurd e.symm hpq) id, .inr⟩
      by_cases hm : p ∈ ps
      · rw [if_pos hm, if_pos (this.2 hm)]
      · rw [if_neg hm, if_neg (fun h => hm (this.1 h))]

/-- As many places as are so, told once each. -/
theorem nodup_count {n : Nat} (p : Nat → Bool) : ∀ (l : List Nat), l.Nodup → (∀ i, i ∈ l ↔ i < n ∧ p i = true) → l.length = cntI p n := by
  intro l hn hm
  have hperm : l.Perm ((List.range n).filter p) := by
    rw [List.perm_iff_count]
    intro a
    have nd : ((List.range n).filter p).Nodup := List.Pairwise.filter _ (List.nodup_range (n := n))
    rw [hn.count, nd.count]
    have : a ∈ l ↔ a ∈ (List.range n).filter p := by rw [hm, List.mem_filter, List.mem_range]
    by_cases h : a ∈ l
    · rw [if_pos h, if_pos (this.1 h)]
    · rw [if_neg h, if_neg (fun k => h (this.2 k))]
  exact hperm.length_eq
theorem pts_count {W H : Nat} (hW : 1 ≤ W) {ps : List (Int × Int)} (hn : ps.Nodup) (hi : ∀ p ∈ ps, InP W H p) (P : Nat → Nat → Bool) (hP : ∀ i j : Nat, i < W → j < H → (((i : Int), (j : Int)) ∈ ps ↔ P i j = true)) :
    ps.length = cntI (fun k => P (k % W) (k / W)) (W * H) := by
  rw [← List.length_map (f := ixP W)]
  refine nodup_count _ _ ?_ ?_
  · rw [List.Nodup, List.pairwise_map]
    refine List.Pairwise.imp_of_mem ?_ hn
    intro a b ha hb hab e
    exact hab (ixP_inj (hi a ha) (hi b hb) e)
  · intro k
    rw [List.mem_map]
    constructor
    · rintro ⟨p, hp, rfl⟩
      obtain ⟨i, j, rfl, h1, h2⟩ := (hi p hp).nat
      rw [ixP_nat]
      have e1 : (j * W + i) % W = i := by rw [Nat.mul_comm, Nat.mul_add_mod]; exact Nat.mod_eq_of_lt h1
      have e2 : (j * W + i) / W = j := by rw [Nat.mul_comm, Nat.mul_add_div (by omega), Nat.div_eq_of_lt h1, Nat.add_zero]
      refine ⟨row_of h1 h2, ?_⟩
      rw [e1, e2]
      exact (hP i j h1 h2).1 hp
    · rintro ⟨hk, hp⟩
      obtain ⟨d1, d2, d3⟩ := div_of hW hk
      exact ⟨((k % W : Nat), (k / W : Nat)), (hP _ _ d1 d2).2 hp, by rw [ixP_nat, d3]⟩
/-- What is drawn, place by place. -/
theorem drawP_upto {W H : Nat} (hW : 1 ≤ W) {ps : List (Int × Int)} {L : List Int} (hl : L.length = W * H) (hn : ps.Nodup) (hi : ∀ p ∈ ps, InP W H p) (f : Int × Int → Int → Int) (P : Nat → Nat → Bool) (hP : ∀ i j : Nat, i < W → j < H → (((i : Int), (j : Int)) ∈ ps ↔ P i j = true)) :
    drawP W f L ps = upto (fun k => if P (k % W) (k / W) then f ((k % W : Nat), (k / W : Nat)) (L.getD k 0) else L.getD k 0) L.length := by
  apply List.ext_getElem?
  intro k
  rw [upto_get]
  by_cases hk : k < L.length
  · rw [if_pos hk]
    obtain ⟨d1, d2, d3⟩ := div_of hW (by rw [← hl]; exact hk)
    have := drawP_get W H f ps L hi hn ((k % W : Nat), (k / W : Nat)) ⟨Int.natCast_nonneg _, Int.ofNat_lt.2 d1, Int.natCast_nonneg _, Int.ofNat_lt.2 d2⟩
    rw [ixP_nat, d3] at this
    rw [this, List.getElem?_eq_getElem hk]
    have hg : L.getD k 0 = L[k] := by simp [List.getD, List.getElem?_eq_getElem hk]
    rw [hg]
    by_cases hm : (((k % W : Nat) : Int), ((k / W : Nat) : Int)) ∈ ps
    · rw [if_pos hm, if_pos ((hP _ _ d1 d2).1 hm)]; rfl
    · rw [if_neg hm, if_neg (fun h => hm ((hP _ _ d1 d2).2 h))]
  · rw [if_neg hk, List.getElem?_eq_none (by rw [drawP_len]; omega)]

end Go.Proofs.Ytleamlecjojfdaa
