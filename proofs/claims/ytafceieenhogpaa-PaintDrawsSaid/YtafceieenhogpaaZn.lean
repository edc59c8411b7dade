/-
  What is proved: plain facts on the points of a list of rectangles, told one by one, and on a list of colors of which some are drawn over. No conditions. what a range over the points of rectangles comes to: the iterator of package paint. No conditions but bounds. what within of package paint hands back: the region of what rectangles have of a box. No conditions but bounds.
-/
import Derived.Test.YtafceieenhogpaaZh
import Derived.Test.YtafceieenhogpaaZj
import Derived.Test.YtafceieenhogpaaRm
import Derived.Laws.MakeOwn
namespace Go.Proofs.Ytafceieenhogpaa
open Go.RowKit Go.Sort

/-- n points from a on, in row y; ny such rows; all points of rectangles. -/
def rowP (a : Int) (n : Nat) (y : Int) : List (Int × Int) := (List.range n).map fun (i : Nat) => (a + (i : Int), y)
def rectP (a b : Int) (nx ny : Nat) : List (Int × Int) := (List.range ny).flatMap fun (j : Nat) => rowP a nx (b + (j : Int))
def nX (r : Rc) : Nat := (r.c - r.a).toNat
def nY (r : Rc) : Nat := (r.d - r.b).toNat
def ptsL (R : List Rc) : List (Int × Int) := R.flatMap fun r => rectP r.a r.b (nX r) (nY r)
theorem rowP_succ (a : Int) (n : Nat) (y : Int) : rowP a (n + 1) y = rowP a n y ++ [(a + (n : Int), y)] := by simp [rowP, List.range_succ]
theorem rectP_succ (a b : Int) (nx ny : Nat) : rectP a b nx (ny + 1) = rectP a b nx ny ++ rowP a nx (b + (ny : Int)) := by simp [rectP, List.range_succ]
theorem ptsL_succ {R : List Rc} {k : Nat} {r : Rc} (h : R[k]? = some r) : ptsL (R.take (k + 1)) = ptsL (R.take k) ++ rectP r.a r.b (nX r) (nY r) := by
  rw [List.take_add_one, h]; simp [ptsL]
theorem rowP_mem {a : Int} {n : Nat} {y : Int} {p : Int × Int} : p ∈ rowP a n y ↔ a ≤ p.1 ∧ p.1 < a + (n : Int) ∧ p.2 = y := by
  unfold rowP
  rw [List.mem_map]
  constructor
  · rintro ⟨i, hi, rfl⟩
    rw [List.mem_range] at hi
    simp; omega
  · rintro ⟨h1, h2, h3⟩
    refine ⟨(p.1 - a).toNat, by rw [List.mem_range]; omega, ?_⟩
    obtain ⟨p1, p2⟩ := p
    simp at *
    omega
theorem rectP_mem {a b : Int} {nx ny : Nat} {p : Int × Int} : p ∈ rectP a b nx ny ↔ a ≤ p.1 ∧ p.1 < a + (nx : Int) ∧ b ≤ p.2 ∧ p.2 < b + (ny : Int) := by
  unfold rectP
  rw [List.mem_flatMap]
  constructor
  · rintro ⟨j, hj, h⟩
    rw [List.mem_range] at hj
    rw [rowP_mem] at h
    omega
  · rintro ⟨h1, h2, h3, h4⟩
    refine ⟨(p.2 - b).toNat, by rw [List.mem_range]; omega, ?_⟩
    rw [rowP_mem]; omega
theorem ptsL_mem {R : List Rc} {p : Int × Int} : p ∈ ptsL R ↔ hasL R p.1 p.2 = true := by
  unfold ptsL hasL
  rw [List.mem_flatMap, List.any_eq_true]
  constructor
  · rintro ⟨r, hr, h⟩
    rw [rectP_mem] at h
    refine ⟨r, hr, ?_⟩
    unfold nX nY at h; unfold hasB; simp; omega
  · rintro ⟨r, hr, h⟩
    refine ⟨r, hr, ?_⟩
    rw [rectP_mem]
    unfold hasB at h; simp at h; unfold nX nY; omega
theorem rowP_nodup (a : Int) (n : Nat) (y : Int) : (rowP a n y).Nodup := by
  unfold rowP
  refine List.Pairwise.map _ ?_ (List.nodup_range (n := n))
  intro i j h e
  injection e with e1 e2
  omega
theorem rectP_nodup (a b : Int) (nx : Nat) : ∀ ny, (rectP a b nx ny).Nodup
  | 0 => by simp [rectP]
  | ny + 1 => by
    rw [rectP_succ, List.nodup_append]
    refine ⟨rectP_nodup a b nx ny, rowP_nodup _ _ _, ?_⟩
    intro p hp q hq e
    subst e
    rw [rectP_mem] at hp; rw [rowP_mem] at hq
    omega
theorem ptsL_nodup : ∀ {R : List Rc}, Apart R → (ptsL R).Nodup
  | [], _ => by simp [ptsL]
  | r :: l, h => by
    obtain ⟨h1, h2⟩ := List.pairwise_cons.1 h
    show (rectP r.a r.b (nX r) (nY r) ++ ptsL l).Nodup
    rw [List.nodup_append]
    refine ⟨rectP_nodup _ _ _ _, ptsL_nodup h2, ?_⟩
    intro p hp q hq e
    subst e
    rw [rectP_mem] at hp; rw [ptsL_mem] at hq
    unfold hasL at hq
    rw [List.any_eq_true] at hq
    obtain ⟨s, hs, hq⟩ := hq
    refine h1 s hs p.1 p.2 ⟨?_, hq⟩
    unfold nX nY at hp; unfold hasB; simp; omega
theorem reg_nodup {R : List Rc} (h : IsReg R) : (ptsL R).Nodup := by
  obtain ⟨B, hB, rfl⟩ := h
  exact ptsL_nodup (rects_apart hB.toWk)
theorem rowP_len (a : Int) (n : Nat) (y : Int) : (rowP a n y).length = n := by simp [rowP]
theorem rectP_len (a b : Int) (nx : Nat) : ∀ ny, (rectP a b nx ny).length = ny * nx
  | 0 => by simp [rectP]
  | ny + 1 => by rw [rectP_succ, List.length_append, rectP_len a b nx ny, rowP_len, Nat.add_mul, Nat.one_mul]

/-- The place of a point in a list of rows of W. -/
def ixP (W : Nat) (p : Int × Int) : Nat := (p.2 * W + p.1).toNat
theorem ixP_nat (W i j : Nat) : ixP W ((i : Int), (j : Int)) = j * W + i := by
  unfold ixP
  have : ((j : Int) * (W : Int) + (i : Int)) = ((j * W + i : Nat) : Int) := by rw [Int.natCast_add, Int.natCast_mul]
  simp only [this, Int.toNat_natCast]
/-- Values put in at points, one by one, each of what stands there. -/
def drawP (W : Nat) (f : Int × Int → Int → Int) (L : List Int) (ps : List (Int × Int)) : List Int := ps.foldl (fun L p => L.set (ixP W p) (f p (L.getD (ixP W p) 0))) L
theorem drawP_snoc (W : Nat) (f : Int × Int → Int → Int) (L : List Int) (ps : List (Int × Int)) (p : Int × Int) : drawP W f L (ps ++ [p]) = (drawP W f L ps).set (ixP W p) (f p ((drawP W f L ps).getD (ixP W p) 0)) := by simp [drawP]
theorem drawP_len (W : Nat) (f : Int × Int → Int → Int) : ∀ (ps : List (Int × Int)) (L : List Int), (drawP W f L ps).length = L.length
  | [], _ => rfl
  | p :: ps, L => by
    show (drawP W f (L.set _ _) ps).length = _
    rw [drawP_len W f ps]; simp
/-- A point of an image of W by H. -/
def InP (W H : Nat) (p : Int × Int) : Prop := 0 ≤ p.1 ∧ p.1 < (W : Int) ∧ 0 ≤ p.2 ∧ p.2 < (H : Int)
theorem InP.nat {W H : Nat} {p : Int × Int} (h : InP W H p) : ∃ i j : Nat, p = ((i : Int), (j : Int)) ∧ i < W ∧ j < H := by
  obtain ⟨h1, h2, h3, h4⟩ := h
  refine ⟨p.1.toNat, p.2.toNat, ?_, by omega, by omega⟩
  obtain ⟨a, b⟩ := p
  simp at *; omega
theorem ixP_inj {W H : Nat} {p q : Int × Int} (hp : InP W H p) (hq : InP W H q) (h : ixP W p = ixP W q) : p = q := by
  obtain ⟨i, j, rfl, h1, h2⟩ := hp.nat
  obtain ⟨i', j', rfl, h3, h4⟩ := hq.nat
  rw [ixP_nat, ixP_nat] at h
  have e1 : (j * W + i) % W = i := by rw [Nat.mul_comm, Nat.mul_add_mod]; exact Nat.mod_eq_of_lt h1
  have e2 : (j' * W + i') % W = i' := by rw [Nat.mul_comm, Nat.mul_add_mod]; exact Nat.mod_eq_of_lt h3
  rw [h] at e1
  have e3 : i = i' := by omega
  subst e3
  have e4 : j * W = j' * W := by omega
  have e5 : j = j' := Nat.eq_of_mul_eq_mul_right (by omega) e4
  rw [e5]
theorem drawP_get (W H : Nat) (f : Int × Int → Int → Int) : ∀ (ps : List (Int × Int)) (L : List Int), (∀ p ∈ ps, InP W H p) → ps.Nodup → ∀ p, InP W H p →
    (drawP W f L ps)[ixP W p]? = if p ∈ ps then L[ixP W p]?.map (f p) else L[ixP W p]?
  | [], L, _, _, p, _ => by simp [drawP]
  | q :: ps, L, hi, hn, p, hp => by
    show (drawP W f (L.set (ixP W q) (f q (L.getD (ixP W q) 0))) ps)[ixP W p]? = _
    obtain ⟨n1, n2⟩ := List.nodup_cons.1 hn
    rw [drawP_get W H f ps _ (fun r hr => hi r (by simp [hr])) n2 p hp, List.getElem?_set]
    by_cases hpq : q = p
    · subst hpq
      rw [if_neg n1, if_pos rfl, if_pos (show q ∈ q :: ps from List.mem_cons_self)]
      by_cases hl : ixP W q < L.length
      · rw [if_pos hl, List.getElem?_eq_getElem hl]; simp [List.getD, List.getElem?_eq_getElem hl]
      · rw [if_neg hl, List.getElem?_eq_none (by omega)]; rfl
    · have hne : ¬ ixP W q = ixP W p := fun e => hpq (ixP_inj (hi q (by simp)) hp e)
      rw [if_neg hne]
      have : (p ∈ q :: ps) ↔ p ∈ ps := by
        rw [List.mem_cons]
        exact ⟨fun h => h.elim (fun e => absurd e.symm hpq) id, .inr⟩
      by_cases hm : p ∈ ps
      · rw [if_pos hm, if_pos (this.2 hm)]
      · rw [if_neg hm, if_neg (fun h => hm (this.1 h))]

/-- As many places as are so, told once each. -/
theorem nodup_count {n : Nat} (p : Nat → Bool) : ∀ (l : List Nat), l.Nodup → (∀ i, i ∈ l ↔ i < n ∧ p i = true) → l.length = cntI p n := by
  intro l hn hm
  have hperm : l.Perm ((List.range n).filter p) := by
    rw [List.perm_iff_count]
    intro a
    have nd : ((List.range n).filter p).Nodup := List.Pairwise.filter _ (List.nodup_range (n := n))
    rw [hn.count, nd.count]
    have : a ∈ l ↔ a ∈ (List.range n).filter p := by rw [hm, List.mem_filter, List.mem_range]
    by_cases h : a ∈ l
    · rw [if_pos h, if_pos (this.1 h)]
    · rw [if_neg h, if_neg (fun k => h (this.2 k))]
  exact hperm.length_eq
theorem pts_count {W H : Nat} (hW : 1 ≤ W) {ps : List (Int × Int)} (hn : ps.Nodup) (hi : ∀ p ∈ ps, InP W H p) (P : Nat → Nat → Bool) (hP : ∀ i j : Nat, i < W → j < H → (((i : Int), (j : Int)) ∈ ps ↔ P i j = true)) :
    ps.length = cntI (fun k => P (k % W) (k / W)) (W * H) := by
  rw [← List.length_map (f := ixP W)]
  refine nodup_count _ _ ?_ ?_
  · rw [List.Nodup, List.pairwise_map]
    refine List.Pairwise.imp_of_mem ?_ hn
    intro a b ha hb hab e
    exact hab (ixP_inj (hi a ha) (hi b hb) e)
  · intro k
    rw [List.mem_map]
    constructor
    · rintro ⟨p, hp, rfl⟩
      obtain ⟨i, j, rfl, h1, h2⟩ := (hi p hp).nat
      rw [ixP_nat]
      have e1 : (j * W + i) % W = i := by rw [Nat.mul_comm, Nat.mul_add_mod]; exact Nat.mod_eq_of_lt h1
      have e2 : (j * W + i) / W = j := by rw [Nat.mul_comm, Nat.mul_add_div (by omega), Nat.div_eq_of_lt h1, Nat.add_zero]
      refine ⟨row_of h1 h2, ?_⟩
      rw [e1, e2]
      exact (hP i j h1 h2).1 hp
    · rintro ⟨hk, hp⟩
      obtain ⟨d1, d2, d3⟩ := div_of hW hk
      exact ⟨((k % W : Nat), (k / W : Nat)), (hP _ _ d1 d2).2 hp, by rw [ixP_nat, d3]⟩
/-- What is drawn, place by place. -/
theorem drawP_upto {W H : Nat} (hW : 1 ≤ W) {ps : List (Int × Int)} {L : List Int} (hl : L.length = W * H) (hn : ps.Nodup) (hi : ∀ p ∈ ps, InP W H p) (f : Int × Int → Int → Int) (P : Nat → Nat → Bool) (hP : ∀ i j : Nat, i < W → j < H → (((i : Int), (j : Int)) ∈ ps ↔ P i j = true)) :
    drawP W f L ps = upto (fun k => if P (k % W) (k / W) then f ((k % W : Nat), (k / W : Nat)) (L.getD k 0) else L.getD k 0) L.length := by
  apply List.ext_getElem?
  intro k
  rw [upto_get]
  by_cases hk : k < L.length
  · rw [if_pos hk]
    obtain ⟨d1, d2, d3⟩ := div_of hW (by rw [← hl]; exact hk)
    have := drawP_get W H f ps L hi hn ((k % W : Nat), (k / W : Nat)) ⟨Int.natCast_nonneg _, Int.ofNat_lt.2 d1, Int.natCast_nonneg _, Int.ofNat_lt.2 d2⟩
    rw [ixP_nat, d3] at this
    rw [this, List.getElem?_eq_getElem hk]
    have hg : L.getD k 0 = L[k] := by simp [List.getD, List.getElem?_eq_getElem hk]
    rw [hg]
    by_cases hm : (((k % W : Nat) : Int), ((k / W : Nat) : Int)) ∈ ps
    · rw [if_pos hm, if_pos ((hP _ _ d1 d2).1 hm)]; rfl
    · rw [if_neg hm, if_neg (fun h => hm ((hP _ _ d1 d2).2 h))]
  · rw [if_neg hk, List.getElem?_eq_none (by rw [drawP_len]; omega)]

end Go.Proofs.Ytafceieenhogpaa
namespace Go.Proofs.Ytafceieenhogpaa
open Go.RowKit Go.Sort Go.Shelf

attribute [local go_sem] Oper.semAt_some

/-- What a round that goes on keeps: all cells but those of some blocks. -/
def KeepC (Pr : Nat → Prop) (A B : World) : Prop := A.heap.size ≤ B.heap.size ∧ ∀ k cs t, ¬ Pr k → At A k cs t → At B k cs t
theorem KeepC.refl (Pr : Nat → Prop) (A : World) : KeepC Pr A A := ⟨Nat.le_refl _, fun _ _ _ _ h => h⟩
theorem KeepC.trans {Pr : Nat → Prop} {A B C : World} (h : KeepC Pr A B) (k : KeepC Pr B C) : KeepC Pr A C := ⟨Nat.le_trans h.1 k.1, fun b cs t hb ha => k.2 b cs t hb (h.2 b cs t hb ha)⟩
theorem KeepC.book {Pr : Nat → Prop} (W : World) (l : Nat) (o o' : Obj) (hl : W.heap[l]? = some o) (ho : o.isCells = false) : KeepC Pr W (W.putObj l o') := ⟨by simp [World.putObj], fun b cs t _ ha => by
  have : b ≠ l := fun e => by
    subst e
    unfold At at ha
    rw [ha] at hl
    cases hl
    cases ho
  unfold At at *
  rw [World.putObj_heap_other this]; exact ha⟩
theorem KeepC.gr {Pr : Nat → Prop} {A B : World} (g : Gr A B) : KeepC Pr A B := ⟨g.size, fun _ _ _ _ h => h.gr g⟩

abbrev Pt (R : List Rc) := {p : Int × Int // p ∈ ptsL R}
def ptV {R : List Rc} (p : Pt R) : Array Value := #[.int .i64 p.1.1, .int .i64 p.1.2]
theorem pts_split {R : List Rc} {k : Nat} {r : Rc} (h : R[k]? = some r) : ptsL R = ptsL (R.take k) ++ (rectP r.a r.b (nX r) (nY r) ++ ptsL (R.drop (k + 1))) := by
  conv => lhs; rw [← List.take_append_drop (k + 1) R]
  unfold ptsL
  rw [List.flatMap_append]
  have := ptsL_succ h
  unfold ptsL at this
  rw [this, List.append_assoc]

theorem rowP_pre (a : Int) {i n : Nat} (y : Int) (h : i ≤ n) : rowP a i y <+: rowP a n y := by
  unfold rowP
  refine ⟨((List.range' i (n - i)).map fun (j : Nat) => (a + (j : Int), y)), ?_⟩
  rw [← List.map_append, List.range_eq_range', List.range_eq_range']
  congr 1
  have := List.range'_append_1 (s := 0) (m := i) (n := n - i)
  rw [Nat.zero_add] at this
  rw [this, show i + (n - i) = n by omega]
theorem rectP_pre (a b : Int) (nx : Nat) {j n : Nat} (h : j ≤ n) : rectP a b nx j <+: rectP a b nx n := by
  obtain ⟨m, rfl⟩ : ∃ m, n = j + m := ⟨n - j, by omega⟩
  clear h
  induction m with
  | zero => exact List.prefix_refl _
  | succ m ih => exact ih.trans ⟨rowP a nx (b + ((j + m : Nat) : Int)), by rw [← Nat.add_assoc, rectP_succ]⟩
theorem pts_pre {R : List Rc} {k : Nat} {r : Rc} (h : R[k]? = some r) {j i : Nat} (hj : j < nY r) (hi : i ≤ nX r) : ptsL (R.take k) ++ (rectP r.a r.b (nX r) j ++ rowP r.a i (r.b + (j : Int))) <+: ptsL R := by
  rw [pts_split h]
  refine List.prefix_append_right_inj _ |>.2 ?_
  have h1 : rectP r.a r.b (nX r) j ++ rowP r.a i (r.b + (j : Int)) <+: rectP r.a r.b (nX r) (j + 1) := by
    rw [rectP_succ]
    exact List.prefix_append_right_inj _ |>.2 (rowP_pre _ _ hi)
  exact (h1.trans (rectP_pre _ _ _ (show j + 1 ≤ nY r by omega))).trans (List.prefix_append _ _)

set_option maxRecDepth 100000 in
set_option maxHeartbeats 4000000 in
theorem pointsIter (n : Nat) (hn : 1 ≤ n) (l bq tq : Nat) (Pr : Nat → Prop) (A : Option Addr) (c : Nat) (R : List Rc) (J Jx : List (Pt R) → World → Prop)
    (hb : ∀ r ∈ R, -1000000 ≤ r.a ∧ r.c ≤ 1000000 ∧ -1000000 ≤ r.b ∧ r.d ≤ 1000000 ∧ r.a ≤ 1000000 ∧ r.b ≤ 1000000) (hlen : R.length ≤ 100000000)
    (hA : ∀ pre A B, J pre A → A.grownBy B none → J pre B)
    (hY : ∀ pre p W1, J pre W1 → pre.length < (ptsL R).length → YieldAt Fence.wide (n - 1) Try.prog l (ptV p) W1 fun e W' =>
      (e = .returned (.bool true) ∧ J (pre ++ [p]) W' ∧ KeepC Pr W1 W') ∨ (e = .returned (.bool false) ∧ Jx (pre ++ [p]) W'))
    (V : World) (hq : At V bq #[.slice A R.length c] tq) (hPr : ∀ k, Pr k → k < V.heap.size) (hRow : ∀ wr, KeepC Pr V wr → Rs wr A R) (h0 : J [] V) :
    CallsIn Fence.wide n Try.prog 96 #[.func (.yield l) #[] #[], .pointer (some ⟨bq, 0, none⟩)] V fun e W' => (∃ v, e = .returned v) ∧
      ((∃ ys : List (Pt R), ys.map (·.1) = ptsL R ∧ J ys W') ∨ (∃ pre : List (Pt R), pre.map (·.1) <+: ptsL R ∧ Jx pre W')) := by
  refine callsIn_of_wp Try.func96 rfl trivial ?_ rfl
  simp only [Try.ntmps96, List.size_toArray, List.length_cons, List.length_nil, Nat.reduceAdd, Nat.reduceSub, Array.replicate_succ, Array.replicate_zero, List.push_toArray, List.append_toArray, List.nil_append, List.cons_append]
  have q0 : V.cell? ⟨bq, 0, none⟩ = some (.slice A R.length c) := hq.cell 0
  obtain ⟨N, hN⟩ : ∃ N, N = R.length := ⟨_, rfl⟩
  rw [← hN] at q0 hlen
  have hN' := Lib.hid hN
  clear hN hq
  gi_wp2
  clear q0
  gi_loopw [9] (fun i wr => ∃ (k : Nat) (pre : List (Pt R)), k ≤ N ∧ i = .int .i64 k ∧ Hid (pre.map (·.1) = ptsL (R.take k)) ∧ J pre wr ∧ KeepC Pr V wr)
    (fun i _ => N - (intOf i).toNat)
  case atStart => exact ⟨0, [], Nat.zero_le _, rfl, Lib.hid (by simp [ptsL]), h0, KeepC.refl _ _⟩
  case round =>
    obtain ⟨k, pre, hk, rfl, hpre, hJ, hK⟩ := hrel
    by_cases hlt : k < N
    · obtain ⟨r, hr⟩ := list_at (show k < R.length by rw [← hN'.out]; exact hlt)
      obtain ⟨b, off, rfl, hrow⟩ := (hRow wr hK).opened (by have := hN'.out; omega)
      obtain ⟨e1, e2, e3, e4⟩ := hrow k r hr
      obtain ⟨b1, b2, b3, b4, b5, b6⟩ := hb r (List.mem_of_getElem? hr)
      have hpp := fun j i hj hi => pts_pre (j := j) (i := i) hr hj hi
      have hps := ptsL_succ hr
      have hK1 := hK.trans (KeepC.gr (Pr := Pr) ((Gr.refl wr).alloc (.cells #[.int .i64 r.a, .int .i64 r.b, .int .i64 r.c, .int .i64 r.d] 24)))
      have hJ1 := hA _ _ _ hJ (((Gr.refl wr).alloc (.cells #[.int .i64 r.a, .int .i64 r.b, .int .i64 r.c, .int .i64 r.d] 24)).by none)
      have B4 := At.new wr #[.int .i64 r.a, .int .i64 r.b, .int .i64 r.c, .int .i64 r.d] 24
      have nPr : ¬ Pr wr.heap.size := fun h => by have := hPr _ h; have := hK.1; omega
      have hnx : nX r = (r.c - r.a).toNat := rfl
      have hny : nY r = (r.d - r.b).toNat := rfl
      obtain ⟨ra, rb, rc, rd⟩ := r
      dsimp only at *
      generalize nX ⟨ra, rb, rc, rd⟩ = nx at *
      generalize nY ⟨ra, rb, rc, rd⟩ = ny at *
      have HPP := Lib.hid hpp
      have HPS := Lib.hid hps
      have HNX := Lib.hid hnx
      have HNY := Lib.hid hny
      clear hpp hps hr hrow hnx hny
      gi_wp2
      obtain ⟨V1, hV1⟩ : ∃ V1, V1 = wr.alloc (.cells #[.int .i64 ra, .int .i64 rb, .int .i64 rc, .int .i64 rd] 24) := ⟨_, rfl⟩
      rw [← hV1] at hJ1 hK1 B4 ⊢
      clear hV1 e1 e2 e3 e4 hJ hK
      generalize wr.heap.size = kb at *
      gi_loopw [5] (fun yv w2 => ∃ (jy : Nat) (pre2 : List (Pt R)), jy ≤ ny ∧ yv = .int .i64 (rb + (jy : Int)) ∧ Hid (pre2.map (·.1) = ptsL (R.take k) ++ rectP ra rb nx jy) ∧ J pre2 w2 ∧ KeepC Pr V w2 ∧ At w2 kb #[.int .i64 ra, .int .i64 rb, .int .i64 rc, .int .i64 rd] 24)
        (fun yv _ => (rd - intOf yv).toNat)
      case atStart => exact ⟨0, pre, Nat.zero_le _, by simp, Lib.hid (by rw [hpre.out]; simp [rectP]), hJ1, hK1, B4⟩
      case round =>
        obtain ⟨jy, pre2, hjy, rfl, hpre2, hJ2, hK2, B2⟩ := hrel
        have y1 : wr.cell? ⟨kb, 1, none⟩ = some (.int .i64 rb) := B2.cell 1
        have y3 : wr.cell? ⟨kb, 3, none⟩ = some (.int .i64 rd) := B2.cell 3
        by_cases hlt2 : jy < ny
        · have hc2 : rb + (jy : Int) < rd := by have := HNY.out; omega
          have y0 : wr.cell? ⟨kb, 0, none⟩ = some (.int .i64 ra) := B2.cell 0
          gi_wp2
          clear y0 y1 y3
          gi_loopw [6] (fun xv w3 => ∃ (ix : Nat) (pre3 : List (Pt R)), ix ≤ nx ∧ xv = .int .i64 (ra + (ix : Int)) ∧ Hid (pre3.map (·.1) = ptsL (R.take k) ++ (rectP ra rb nx jy ++ rowP ra ix (rb + (jy : Int)))) ∧ J pre3 w3 ∧ KeepC Pr V w3 ∧ At w3 kb #[.int .i64 ra, .int .i64 rb, .int .i64 rc, .int .i64 rd] 24)
            (fun xv _ => (rc - intOf xv).toNat)
          case atStart => exact ⟨0, pre2, Nat.zero_le _, by simp, Lib.hid (by rw [hpre2.out]; simp [rowP]), hJ2, hK2, B2⟩
          case round =>
            obtain ⟨ix, pre3, hix, rfl, hpre3, hJ3, hK3, B3⟩ := hrel
            have z2 : wr.cell? ⟨kb, 2, none⟩ = some (.int .i64 rc) := B3.cell 2
            by_cases hlt3 : ix < nx
            · have hc3 : ra + (ix : Int) < rc := by have := HNX.out; omega
              have hp1 := HPP.out jy (ix + 1) hlt2 hlt3
              have hmem : (ra + (ix : Int), rb + (jy : Int)) ∈ ptsL R := hp1.subset (by rw [rowP_succ]; simp)
              have hp2 : (pre3 ++ [(⟨(ra + (ix : Int), rb + (jy : Int)), hmem⟩ : Pt R)]).map (·.1) = ptsL (R.take k) ++ (rectP ra rb nx jy ++ rowP ra (ix + 1) (rb + (jy : Int))) := by
                rw [List.map_append, hpre3.out, rowP_succ]; simp
              have hlen3 : pre3.length < (ptsL R).length := by
                have h1 := hp1.length_le
                rw [← hp2] at h1
                simp at h1
                omega
              have hYY := hY pre3 ⟨(ra + (ix : Int), rb + (jy : Int)), hmem⟩ wr hJ3 hlen3
              have rv : ptV (⟨(ra + (ix : Int), rb + (jy : Int)), hmem⟩ : Pt R) = #[.int .i64 (ra + (ix : Int)), .int .i64 (rb + (jy : Int))] := rfl
              rw [rv] at hYY
              have HP1 := Lib.hid hp1
              have HP2 := Lib.hid hp2
              clear hp1 hp2 rv hlen3
              obtain ⟨fn, tmps, assign, body, hyy, hRR⟩ := hYY
              gi_wp2_with fail
              refine hRR.mono ?_
              rintro e W3 (⟨rfl, hJ4, hk4⟩ | ⟨rfl, hJx4⟩)
              · gi_wp2
                go_roundw
                case rel => exact ⟨ix + 1, _, by omega, by simp; omega, HP2, hJ4, hK3.trans hk4, hk4.2 _ _ _ nPr B3⟩
                case measure => simp [intOf]; omega
              · gi_wp2
                refine bodyPost_ret (results_none rfl _ _ _) rfl ?_
                exact ⟨⟨_, rfl⟩, .inr ⟨_, by rw [HP2.out]; exact HP1.out, hJx4⟩⟩
            · obtain rfl : ix = nx := by omega
              have hc3 : rc ≤ ra + (ix : Int) := by have := HNX.out; omega
              gi_wp2
              go_roundw
              case rel => exact ⟨jy + 1, pre3, by omega, by simp; omega, Lib.hid (by rw [hpre3.out, rectP_succ]), hJ3, hK3, B3⟩
              case measure => simp [intOf]; omega
        · obtain rfl : jy = ny := by omega
          have hc2 : rd ≤ rb + (jy : Int) := by have := HNY.out; omega
          gi_wp2
          go_roundw
          case rel => exact ⟨k + 1, pre2, by omega, by simp, Lib.hid (by rw [hpre2.out, HPS.out]), hJ2, hK2⟩
          case measure => simp [intOf]; omega
    · obtain rfl : k = N := by omega
      gi_wp2
      go_end0
      exact ⟨⟨_, rfl⟩, .inl ⟨pre, by rw [hpre.out, hN'.out, List.take_length], hJ⟩⟩

end Go.Proofs.Ytafceieenhogpaa
namespace Go.Proofs.Ytafceieenhogpaa
open Go.RowKit Go.Sort

def zR : Rc := ⟨0, 0, 0, 0⟩
theorem cR_zero : ∀ n : Nat, cR (List.replicate n zR) = List.replicate (n * 4) (.int .i64 0)
  | 0 => rfl
  | n + 1 => by
    rw [List.replicate_succ]
    show c4 zR ++ cR (List.replicate n zR) = _
    rw [cR_zero n, show (n + 1) * 4 = 4 + n * 4 by omega, ← List.replicate_append_replicate]
    rfl
theorem madeR (n : Nat) : madeCells #[Value.int .i64 0, .int .i64 0, .int .i64 0, .int .i64 0] (n * 4) = (cR (List.replicate n zR)).toArray := by
  rw [cR_zero]
  apply Array.ext
  · simp [madeCells]
  · intro i h1 h2
    have h4 : i % 4 < 4 := Nat.mod_lt _ (by omega)
    simp [madeCells]
    obtain h | h | h | h : i % 4 = 0 ∨ i % 4 = 1 ∨ i % 4 = 2 ∨ i % 4 = 3 := by omega
    all_goals simp [h]
theorem makeR (n : Nat) (h : n ≤ 100000000) (w : World) : (Instr.makeSlice 22 (.int .i64 n) (.int .i64 n)).run Try.prog w =
    .ok (.slice (some ⟨w.heap.size, 0, none⟩) n n) (w.alloc (.cells (cR (List.replicate n zR)).toArray 24)) := by
  obtain ⟨i0, hi, hz0, hz1, hz2⟩ := info_parts infoR
  have := run_make (P := Try.prog) w 22 24 i0 _ Try.underlying22 hi hz0 .i64 .i64 n n (by omega) (Int.le_refl _) (by rw [hz2]; omega) (by omega)
  rw [this, hz1]
  have e : madeCells (Value.agg #[Value.int .i64 0, .int .i64 0, .int .i64 0, .int .i64 0]).cells (n * 4) = (cR (List.replicate n zR)).toArray := madeR n
  simp [e]
theorem put_rect {w : World} {b k : Nat} {L : List Rc} {t : TypeId} {o r : Rc} (h : At w b (cR L).toArray t) (ho : L[k]? = some o) :
    At ((((w.setCell ⟨b, k * 4, none⟩ (.int .i64 r.a)).setCell ⟨b, k * 4 + 1, none⟩ (.int .i64 r.b)).setCell ⟨b, k * 4 + 2, none⟩ (.int .i64 r.c)).setCell ⟨b, k * 4 + 3, none⟩ (.int .i64 r.d)) b (cR (L.set k r)).toArray t := by
  have hk := get_lt ho
  have e1 := cR_set L k o ⟨r.a, o.b, o.c, o.d⟩ 0 (.int .i64 r.a) ho (by omega) rfl
  have e2 := cR_set (L.set k ⟨r.a, o.b, o.c, o.d⟩) k ⟨r.a, o.b, o.c, o.d⟩ ⟨r.a, r.b, o.c, o.d⟩ 1 (.int .i64 r.b) (by simp [hk]) (by omega) rfl
  have e3 := cR_set (L.set k ⟨r.a, r.b, o.c, o.d⟩) k ⟨r.a, r.b, o.c, o.d⟩ ⟨r.a, r.b, r.c, o.d⟩ 2 (.int .i64 r.c) (by simp [hk]) (by omega) rfl
  have e4 := cR_set (L.set k ⟨r.a, r.b, r.c, o.d⟩) k ⟨r.a, r.b, r.c, o.d⟩ r 3 (.int .i64 r.d) (by simp [hk]) (by omega) rfl
  simp only [List.set_set] at e2 e3 e4
  rw [e4, e3, e2, e1]
  have p1 := Go.Joins.block_setCell (i := k * 4 + 0) h (.int .i64 r.a)
  have p2 := Go.Joins.block_setCell (i := k * 4 + 1) p1 (.int .i64 r.b)
  have p3 := Go.Joins.block_setCell (i := k * 4 + 2) p2 (.int .i64 r.c)
  have p4 := Go.Joins.block_setCell (i := k * 4 + 3) p3 (.int .i64 r.d)
  unfold At
  simpa using p4
theorem At.rowRc {w : World} {b : Nat} {L : List Rc} {t : TypeId} (h : At w b (cR L).toArray t) : RowR w b 0 L := fun k r hk => by
  have g := fun j hj => (h.cell (k * 4 + j)).trans (List.getElem?_toArray.trans (cR_get L k r j hk hj))
  rw [Nat.zero_add]
  exact ⟨g 0 (by omega), g 1 (by omega), g 2 (by omega), g 3 (by omega)⟩

end Go.Proofs.Ytafceieenhogpaa
