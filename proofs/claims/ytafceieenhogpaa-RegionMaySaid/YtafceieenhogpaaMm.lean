/-
  What is proved: plain facts on how the merge of two regions goes on, height by height; and the bands of a region's rectangles; no Go in sight.
-/
import Derived.Test.YtafceieenhogpaaG
import Derived.Test.YtafceieenhogpaaBo
namespace Go.Proofs.Ytafceieenhogpaa

theorem fromL_rows (y0 : Int) : ∀ (p : List Bn) (y : Int), y0 ≤ y → rowE (fromL y0 p) y = rowE p y
  | [], y, _ => rfl
  | b :: l, y, h => by
    unfold fromL
    by_cases hb : b.y1 ≤ y0
    · rw [if_pos hb, fromL_rows y0 l y h]
      show _ = if b.y0 ≤ y ∧ y < b.y1 then b.E else rowE l y
      rw [if_neg (by omega)]
    · rw [if_neg hb]
theorem fromL_sub (y0 : Int) : ∀ (p : List Bn), (fromL y0 p).Sublist p
  | [] => List.Sublist.refl _
  | b :: l => by
    unfold fromL
    by_cases hb : b.y1 ≤ y0
    · rw [if_pos hb]; exact (fromL_sub y0 l).cons b
    · rw [if_neg hb]; exact List.Sublist.refl _
theorem fromL_head {y0 : Int} : ∀ {p : List Bn} {b : Bn} {l : List Bn}, fromL y0 p = b :: l → y0 < b.y1
  | [], b, l, h => by cases h
  | c :: p, b, l, h => by
    unfold fromL at h
    by_cases hb : c.y1 ≤ y0
    · rw [if_pos hb] at h; exact fromL_head h
    · rw [if_neg hb] at h; injection h with h1 h2; subst h1; omega
theorem Wk.sub {B C : List Bn} (h : Wk B) (hs : C.Sublist B) : Wk C := ⟨fun b hb => h.ok b (hs.mem hb), h.seq.sublist hs⟩

theorem inc_next {ys : List Int} (h : Inc ys) {i : Nat} {y0 y1 z : Int} (h0 : ys[i]? = some y0) (h1 : ys[i + 1]? = some y1) (hz : z ∈ ys) (hlt : y0 < z) : y1 ≤ z := by
  rw [List.mem_iff_getElem] at hz
  obtain ⟨k, hk, rfl⟩ := hz
  have g0 := get_lt h0
  have g1 := get_lt h1
  rw [List.getElem?_eq_getElem g0] at h0
  rw [List.getElem?_eq_getElem g1] at h1
  injection h0 with h0
  injection h1 with h1
  have hp := List.pairwise_iff_getElem.1 h
  rcases Nat.lt_trichotomy k (i + 1) with h2 | h2 | h2
  · rcases Nat.lt_or_ge k i with h3 | h3
    · have := hp k i hk g0 h3; omega
    · have : k = i := by omega
      subst this; omega
  · subst h2; omega
  · have := hp (i + 1) k g1 hk h2; omega
theorem inc_first {ys : List Int} (h : Inc ys) {y0 z : Int} (h0 : ys[0]? = some y0) (hz : z ∈ ys) : y0 ≤ z := by
  have := inc_head_le h h0 z (by simpa using hz)
  exact this
theorem inc_last {ys : List Int} (h : Inc ys) {i : Nat} {y0 z : Int} (h0 : ys[i]? = some y0) (hi : i + 1 = ys.length) (hz : z ∈ ys) : z ≤ y0 := by
  rw [List.mem_iff_getElem] at hz
  obtain ⟨k, hk, rfl⟩ := hz
  have g0 := get_lt h0
  rw [List.getElem?_eq_getElem g0] at h0
  injection h0 with h0
  rcases Nat.lt_or_ge k i with h3 | h3
  · have := List.pairwise_iff_getElem.1 h k i hk g0 h3; omega
  · have : k = i := by omega
    subst this; omega

/-- Edges between two heights that follow one another. -/
theorem edges_row {p : List Bn} {y0 y1 : Int} (hw : Wk p) (hend : ∀ b ∈ p, (y0 < b.y1 → y1 ≤ b.y1) ∧ (y0 < b.y0 → y1 ≤ b.y0)) {y : Int} (h0 : y0 ≤ y) (h1 : y < y1) : edgesL (fromL y0 p) y0 = rowE (fromL y0 p) y := by
  have hs := fromL_sub y0 p
  cases hf : fromL y0 p with
  | nil => rfl
  | cons b l =>
    have hb := fromL_head hf
    rw [hf] at hs
    obtain ⟨e1, e2⟩ := hend b (hs.mem (by simp))
    have hw' := hw.sub hs
    obtain ⟨q1, q2, q3⟩ := hw'.cons
    show (if y0 < b.y0 then [] else b.E) = _
    by_cases hlt : y0 < b.y0
    · rw [if_pos hlt, rowE_none]
      intro c hc
      rw [List.mem_cons] at hc
      have := e2 hlt
      rcases hc with rfl | hc
      · left; omega
      · have := (q2 c hc).1; have := q1.1; left; omega
    · rw [if_neg hlt]
      show _ = if b.y0 ≤ y ∧ y < b.y1 then b.E else rowE l y
      have := e1 hb
      rw [if_pos (by omega)]
theorem edgesL_ok {p : List Bn} {y : Int} (hw : Wk p) : Inc (edgesL p y) ∧ (edgesL p y).length % 2 = 0 := by
  cases p with
  | nil => exact ⟨List.Pairwise.nil, rfl⟩
  | cons b l =>
    show Inc (if y < b.y0 then [] else b.E) ∧ (if y < b.y0 then [] else b.E).length % 2 = 0
    split
    · exact ⟨List.Pairwise.nil, rfl⟩
    · exact (hw.ok b (by simp)).2
theorem edgesL_mem {p : List Bn} {y : Int} : edgesL p y = [] ∨ ∃ b ∈ p, edgesL p y = b.E := by
  cases p with
  | nil => exact .inl rfl
  | cons b l =>
    show (if y < b.y0 then [] else b.E) = [] ∨ ∃ c ∈ b :: l, (if y < b.y0 then [] else b.E) = c.E
    split
    · exact .inl rfl
    · exact .inr ⟨b, by simp, rfl⟩

/-- How far a merge of two regions has come. -/
structure MInv (p q : List Bn) (kp : Bool → Bool → Bool) (ys : List Int) (i : Nat) (O p' q' : List Bn) : Prop where
  i1 : 1 ≤ i
  wk : Wk O
  top : ∀ y0, ys[i - 1]? = some y0 → ∀ c ∈ O, c.y1 ≤ y0
  len : O.length ≤ i - 1
  par : ∀ y0, ys[i - 1]? = some y0 → ∀ y, y < y0 → ∀ x, inE (rowE O y) x = kp (inE (rowE p y) x) (inE (rowE q y) x)
  sp : p'.Sublist p
  sq : q'.Sublist q
  rp : ∀ y0, ys[i - 1]? = some y0 → ∀ y, y0 ≤ y → rowE p' y = rowE p y
  rq : ∀ y0, ys[i - 1]? = some y0 → ∀ y, y0 ≤ y → rowE q' y = rowE q y
  ed : ∀ c ∈ O, (∀ e ∈ c.E, ∃ b, (b ∈ p ∨ b ∈ q) ∧ e ∈ b.E) ∧ c.y0 ∈ ys ∧ c.y1 ∈ ys
  el : ∀ c ∈ O, c.E.length ≤ 2000000
theorem MInv.start {p q : List Bn} {kp : Bool → Bool → Bool} {ys : List Int} (hy : Hts p q ys) (hk : kp false false = false) (_hp : Wk p) (_hq : Wk q) : MInv p q kp ys 1 [] p q where
  i1 := Nat.le_refl _
  wk := Wk.nil
  top := by simp
  len := by simp
  par := fun y0 h0 y hlt x => by
    rw [rowE_none (B := p) (fun b hb => by have := inc_first hy.inc h0 ((hy.mem b.y0).2 ⟨b, .inl hb, .inl rfl⟩); left; omega),
      rowE_none (B := q) (fun b hb => by have := inc_first hy.inc h0 ((hy.mem b.y0).2 ⟨b, .inr hb, .inl rfl⟩); left; omega)]
    simp [rowE, inE_nil, hk]
  sp := List.Sublist.refl _
  sq := List.Sublist.refl _
  rp := fun _ _ _ _ => rfl
  rq := fun _ _ _ _ => rfl
  ed := by simp
  el := by simp
theorem MInv.step {p q : List Bn} {kp : Bool → Bool → Bool} {ys : List Int} {i : Nat} {O p' q' : List Bn} (h : MInv p q kp ys i O p' q') (hy : Hts p q ys) (hp : Wk p) (hq : Wk q) {y0 y1 : Int} (h0 : ys[i - 1]? = some y0) (h1 : ys[i]? = some y1)
    (hlp : ∀ b ∈ p, b.E.length ≤ 1000000) (hlq : ∀ b ∈ q, b.E.length ≤ 1000000)
    {e : List Int} (he : Mrg (edgesL (fromL y0 p') y0) (edgesL (fromL y0 q') y0) kp e) : MInv p q kp ys (i + 1) (addL O ⟨y0, y1, e⟩) (fromL y0 p') (fromL y0 q') := by
  have hi := h.i1
  have hlt : y0 < y1 := by
    have g0 := get_lt h0
    have g1 := get_lt h1
    rw [List.getElem?_eq_getElem g0] at h0
    rw [List.getElem?_eq_getElem g1] at h1
    injection h0 with h0
    injection h1 with h1
    have := List.pairwise_iff_getElem.1 hy.inc (i - 1) i g0 g1 (by omega)
    omega
  have nx : ∀ z ∈ ys, y0 < z → y1 ≤ z := fun z hz hl => inc_next hy.inc (i := i - 1) h0 (by rw [show i - 1 + 1 = i from by omega]; exact h1) hz hl
  have hpe : ∀ b ∈ p', (y0 < b.y1 → y1 ≤ b.y1) ∧ (y0 < b.y0 → y1 ≤ b.y0) := fun b hb => ⟨nx _ ((hy.mem _).2 ⟨b, .inl (h.sp.mem hb), .inr rfl⟩), nx _ ((hy.mem _).2 ⟨b, .inl (h.sp.mem hb), .inl rfl⟩)⟩
  have hqe : ∀ b ∈ q', (y0 < b.y1 → y1 ≤ b.y1) ∧ (y0 < b.y0 → y1 ≤ b.y0) := fun b hb => ⟨nx _ ((hy.mem _).2 ⟨b, .inr (h.sq.mem hb), .inr rfl⟩), nx _ ((hy.mem _).2 ⟨b, .inr (h.sq.mem hb), .inl rfl⟩)⟩
  have hwp := hp.sub h.sp
  have hwq := hq.sub h.sq
  have hbok : (⟨y0, y1, e⟩ : Bn).ok := ⟨hlt, he.inc, he.even⟩
  obtain ⟨a1, a2, a3, a4, a5⟩ := addL_wk h.wk hbok (h.top y0 h0)
  have rpf : ∀ y, y0 ≤ y → rowE (fromL y0 p') y = rowE p y := fun y hy' => by rw [fromL_rows y0 p' y hy', h.rp y0 h0 y hy']
  have rqf : ∀ y, y0 ≤ y → rowE (fromL y0 q') y = rowE q y := fun y hy' => by rw [fromL_rows y0 q' y hy', h.rq y0 h0 y hy']
  refine ⟨by omega, a1, ?_, ?_, ?_, (fromL_sub y0 p').trans h.sp, (fromL_sub y0 q').trans h.sq, ?_, ?_, ?_, ?_⟩
  · intro z hz c hc
    rw [Nat.add_sub_cancel, h1] at hz
    injection hz with hz
    subst hz
    exact a3 c hc
  · have := h.len; omega
  · intro z hz y hyz x
    rw [Nat.add_sub_cancel, h1] at hz
    injection hz with hz
    subst hz
    rw [a2]
    by_cases hy0 : y0 ≤ y
    · rw [if_pos ⟨hy0, hyz⟩]
      show inE e x = _
      rw [he.par x, edges_row hwp hpe hy0 hyz, edges_row hwq hqe hy0 hyz, rpf y hy0, rqf y hy0]
    · rw [if_neg (by show ¬ (y0 ≤ y ∧ y < y1); omega)]
      exact h.par y0 h0 y (by omega) x
  · intro z hz y hyz
    rw [Nat.add_sub_cancel, h1] at hz
    injection hz with hz
    subst hz
    exact rpf y (by omega)
  · intro z hz y hyz
    rw [Nat.add_sub_cancel, h1] at hz
    injection hz with hz
    subst hz
    exact rqf y (by omega)
  · intro c hc
    obtain ⟨b1, b2, b3⟩ := a5 c hc
    refine ⟨fun x hx => ?_, ?_, ?_⟩
    · rcases b1 with b1 | ⟨d, hd, b1⟩
      · rw [b1] at hx
        rcases he.sub x hx with h2 | h2
        · rcases edgesL_mem (p := fromL y0 p') (y := y0) with h3 | ⟨b, h3, h4⟩
          · rw [h3] at h2; simp at h2
          · rw [h4] at h2; exact ⟨b, .inl (h.sp.mem ((fromL_sub y0 p').mem h3)), h2⟩
        · rcases edgesL_mem (p := fromL y0 q') (y := y0) with h3 | ⟨b, h3, h4⟩
          · rw [h3] at h2; simp at h2
          · rw [h4] at h2; exact ⟨b, .inr (h.sq.mem ((fromL_sub y0 q').mem h3)), h2⟩
      · rw [b1] at hx; exact (h.ed d hd).1 x hx
    · rcases b2 with b2 | ⟨d, hd, b2⟩
      · rw [b2]; exact get_mem h0
      · rw [b2]; exact (h.ed d hd).2.1
    · rcases b3 with b3 | ⟨d, hd, b3⟩
      · rw [b3]; exact get_mem h1
      · rw [b3]; exact (h.ed d hd).2.2
  · intro c hc
    obtain ⟨b1, _⟩ := a5 c hc
    rcases b1 with b1 | ⟨d, hd, b1⟩
    · rw [b1]
      refine Nat.le_trans he.len ?_
      have l1 : (edgesL (fromL y0 p') y0).length ≤ 1000000 := by
        rcases edgesL_mem (p := fromL y0 p') (y := y0) with h3 | ⟨b, h3, h4⟩
        · rw [h3]; simp
        · rw [h4]; exact hlp b (h.sp.mem ((fromL_sub y0 p').mem h3))
      have l2 : (edgesL (fromL y0 q') y0).length ≤ 1000000 := by
        rcases edgesL_mem (p := fromL y0 q') (y := y0) with h3 | ⟨b, h3, h4⟩
        · rw [h3]; simp
        · rw [h4]; exact hlq b (h.sq.mem ((fromL_sub y0 q').mem h3))
      omega
    · rw [b1]; exact h.el d hd
/-- Behind the last height. -/
theorem MInv.done {p q : List Bn} {kp : Bool → Bool → Bool} {ys : List Int} {i : Nat} {O p' q' : List Bn} (h : MInv p q kp ys i O p' q') (hy : Hts p q ys) (hk : kp false false = false) (hi : ys.length ≤ i) (hi2 : i ≤ ys.length ∨ i = 1) :
    ∀ y x, inE (rowE O y) x = kp (inE (rowE p y) x) (inE (rowE q y) x) := by
  intro y x
  have h1 := h.i1
  by_cases h0 : ys.length = 0
  · have hn : ys = [] := List.eq_nil_of_length_eq_zero h0
    have hp0 : p = [] := by
      cases p with
      | nil => rfl
      | cons b l => have := (hy.mem b.y0).2 ⟨b, .inl (by simp), .inl rfl⟩; rw [hn] at this; simp at this
    have hq0 : q = [] := by
      cases q with
      | nil => rfl
      | cons b l => have := (hy.mem b.y0).2 ⟨b, .inr (by simp), .inl rfl⟩; rw [hn] at this; simp at this
    have hO : O = [] := by
      cases O with
      | nil => rfl
      | cons b l => have := (h.ed b (by simp)).2.1; rw [hn] at this; simp at this
    subst hp0 hq0 hO
    simp [rowE, inE_nil, hk]
  · have hii : i = ys.length := by omega
    obtain ⟨y0, hy0⟩ := list_at (show i - 1 < ys.length by omega)
    by_cases hlt : y < y0
    · exact h.par y0 hy0 y hlt x
    · have last : ∀ z ∈ ys, z ≤ y0 := fun z hz => inc_last hy.inc hy0 (by omega) hz
      rw [rowE_none (B := O) (fun c hc => by have := h.top y0 hy0 c hc; right; omega),
        rowE_none (B := p) (fun b hb => by have := last b.y1 ((hy.mem _).2 ⟨b, .inl hb, .inr rfl⟩); right; omega),
        rowE_none (B := q) (fun b hb => by have := last b.y1 ((hy.mem _).2 ⟨b, .inr hb, .inr rfl⟩); right; omega)]
      simp [inE_nil, hk]

/-- How many rectangles there may be, where all numbers are of two short lists. -/
theorem inc_len : ∀ (l Y : List Int), Inc l → (∀ e ∈ l, e ∈ Y) → l.length ≤ Y.length
  | [], Y, _, _ => Nat.zero_le _
  | a :: l, Y, h, hs => by
    obtain ⟨h1, h2⟩ := List.pairwise_cons.1 h
    have ha := hs a (by simp)
    have := inc_len l (Y.erase a) h2 fun e he => by
      have := h1 e he
      exact (List.mem_erase_of_ne (by omega)).2 (hs e (by simp [he]))
    rw [List.length_erase_of_mem ha] at this
    have hpos : 0 < Y.length := List.length_pos_of_mem ha
    simp; omega
def InB (X Y : List Int) (B : List Bn) : Prop := ∀ b ∈ B, b.y0 ∈ Y ∧ b.y1 ∈ Y ∧ ∀ e ∈ b.E, e ∈ X
def InR (X Y : List Int) (L : List Rc) : Prop := ∀ r ∈ L, r.a ∈ X ∧ r.c ∈ X ∧ r.b ∈ Y ∧ r.d ∈ Y
theorem bands_len {B : List Bn} (h : Wk B) {X Y : List Int} (hi : InB X Y B) : B.length ≤ Y.length := by
  have : Inc (B.map (·.y0)) := by
    unfold Inc
    rw [List.pairwise_map]
    refine List.Pairwise.imp_of_mem (R := Seq) (fun {b c} hb hc hs => ?_) h.seq
    have := (h.ok b hb).1
    have := hs.1
    omega
  have := inc_len _ Y this (fun e he => by
    rw [List.mem_map] at he
    obtain ⟨b, hb, rfl⟩ := he
    exact (hi b hb).1)
  simpa using this
theorem rects_len_le : ∀ (B : List Bn) (N : Nat), (∀ b ∈ B, b.E.length ≤ N) → (rectsL B).length ≤ B.length * N
  | [], N, _ => Nat.zero_le _
  | b :: l, N, h => by
    have ih := rects_len_le l N fun c hc => h c (by simp [hc])
    have := h b (by simp)
    show (bandE b.y0 b.y1 b.E ++ rectsL l).length ≤ (l.length + 1) * N
    rw [List.length_append, bandE_len, Nat.add_mul]
    omega
theorem rects_len {B : List Bn} (h : Wk B) {X Y : List Int} (hi : InB X Y B) : (rectsL B).length ≤ Y.length * X.length :=
  Nat.le_trans (rects_len_le B X.length fun b hb => inc_len _ _ (h.ok b hb).2.1 (hi b hb).2.2) (Nat.mul_le_mul_right _ (bands_len h hi))
theorem bandE_mem (y0 y1 : Int) : ∀ (E : List Int) (r : Rc), r ∈ bandE y0 y1 E → r.b = y0 ∧ r.d = y1 ∧ r.a ∈ E ∧ r.c ∈ E
  | [], r, h => by simp [bandE] at h
  | [x], r, h => by simp [bandE] at h
  | x :: z :: E, r, h => by
    unfold bandE at h
    rw [List.mem_cons] at h
    rcases h with rfl | h
    · exact ⟨rfl, rfl, by simp, by simp⟩
    · obtain ⟨h1, h2, h3, h4⟩ := bandE_mem y0 y1 E r h
      exact ⟨h1, h2, by simp [h3], by simp [h4]⟩
theorem bandE_has (y0 y1 : Int) : ∀ (E : List Int) (e : Int), E.length % 2 = 0 → e ∈ E → ∃ r ∈ bandE y0 y1 E, r.a = e ∨ r.c = e
  | [], e, _, h => by simp at h
  | [x], e, h, _ => by simp at h
  | x :: z :: E, e, hl, h => by
    rw [List.mem_cons, List.mem_cons] at h
    rcases h with rfl | rfl | h
    · exact ⟨⟨e, y0, z, y1⟩, by simp [bandE], .inl rfl⟩
    · exact ⟨⟨x, y0, e, y1⟩, by simp [bandE], .inr rfl⟩
    · obtain ⟨r, h1, h2⟩ := bandE_has y0 y1 E e (by simp at hl; omega) h
      exact ⟨r, by simp [bandE, h1], h2⟩
theorem rects_mem : ∀ (B : List Bn) (r : Rc), r ∈ rectsL B ↔ ∃ b ∈ B, r ∈ bandE b.y0 b.y1 b.E
  | [], r => by simp [rectsL]
  | b :: l, r => by
    show r ∈ bandE b.y0 b.y1 b.E ++ rectsL l ↔ _
    rw [List.mem_append, rects_mem l r]
    constructor
    · rintro (h | ⟨c, h1, h2⟩)
      · exact ⟨b, by simp, h⟩
      · exact ⟨c, by simp [h1], h2⟩
    · rintro ⟨c, h1, h2⟩
      rw [List.mem_cons] at h1
      rcases h1 with rfl | h1
      · exact .inl h2
      · exact .inr ⟨c, h1, h2⟩
theorem InB.rects {X Y : List Int} {B : List Bn} (h : InB X Y B) : InR X Y (rectsL B) := fun r hr => by
  obtain ⟨b, h1, h2⟩ := (rects_mem B r).1 hr
  obtain ⟨q1, q2, q3, q4⟩ := bandE_mem _ _ _ _ h2
  obtain ⟨p1, p2, p3⟩ := h b h1
  exact ⟨p3 _ q3, p3 _ q4, by rw [q1]; exact p1, by rw [q2]; exact p2⟩
theorem InR.bands {X Y : List Int} {B : List Bn} (hB : Gd B) (h : InR X Y (rectsL B)) : InB X Y B := fun b hb => by
  have hok := hB.ok b hb
  have all : ∀ e ∈ b.E, e ∈ X ∧ b.y0 ∈ Y ∧ b.y1 ∈ Y := fun e he => by
    obtain ⟨r, h1, h2⟩ := bandE_has b.y0 b.y1 b.E e hok.2.2 he
    obtain ⟨q1, q2, _, _⟩ := bandE_mem _ _ _ _ h1
    obtain ⟨p1, p2, p3, p4⟩ := h r ((rects_mem B r).2 ⟨b, hb, h1⟩)
    refine ⟨?_, by rw [← q1]; exact p3, by rw [← q2]; exact p4⟩
    rcases h2 with h2 | h2
    · rw [← h2]; exact p1
    · rw [← h2]; exact p2
  cases hE : b.E with
  | nil => exact absurd hE (hB.full b hb)
  | cons e E =>
    obtain ⟨q1, q2, q3⟩ := all e (by rw [hE]; simp)
    exact ⟨q2, q3, fun e' he' => (all e' (by rw [hE]; exact he')).1⟩

/-- The bands of a region's rectangles are those that it was made of. -/
theorem bndL_prefix (L M : List Rc) : ∀ k, k ≤ L.length → bndL (L ++ M) k = bndL L k
  | 0, _ => rfl
  | k + 1, h => by
    have ih := bndL_prefix L M k (by omega)
    show (match (L ++ M)[k]? with | none => _ | some r => _) = (match L[k]? with | none => _ | some r => _)
    rw [List.getElem?_append_left (by omega), ih]
    obtain ⟨r, hr⟩ := list_at (show k < L.length by omega)
    rw [hr]
    simp only
    rw [List.getElem?_append_left (by omega)]
theorem bndL_band (L : List Rc) (y0 y1 : Int) (E : List Int) (hE : E.length % 2 = 0) (hne : ∀ r, L[L.length - 1]? = some r → r.b ≠ y0) : ∀ j, 1 ≤ j → 2 * j ≤ E.length →
    bndL (L ++ bandE y0 y1 E) (L.length + j) = bndL L L.length ++ [⟨y0, y1, E.take (2 * j)⟩]
  | 0, h, _ => by omega
  | j + 1, _, hj => by
    obtain ⟨xa, ha⟩ := list_at (show 2 * j < E.length by omega)
    obtain ⟨xb, hb⟩ := list_at (show 2 * j + 1 < E.length by omega)
    have hg := bandE_get y0 y1 E j xa xb ha hb
    have hr : (L ++ bandE y0 y1 E)[L.length + j]? = some ⟨xa, y0, xb, y1⟩ := by
      rw [List.getElem?_append_right (by omega), show L.length + j - L.length = j from by omega]; exact hg
    have ht : E.take (2 * (j + 1)) = E.take (2 * j) ++ [xa, xb] := by
      rw [show 2 * (j + 1) = 2 * j + 1 + 1 from by omega, take_more hb, take_more ha]; simp
    rw [ht, show L.length + (j + 1) = (L.length + j) + 1 from by omega]
    rcases Nat.eq_zero_or_pos j with h0 | h0
    · subst h0
      rw [bndL_new hr ?_, Nat.add_zero, bndL_prefix L _ L.length (Nat.le_refl _)]
      · simp
      · rcases Nat.eq_zero_or_pos L.length with h1 | h1
        · left; omega
        · right
          rw [List.getElem?_append_left (by omega)]
          obtain ⟨r, hr'⟩ := list_at (show L.length + 0 - 1 < L.length by omega)
          rw [hr']
          have := hne r (by simpa using hr')
          simpa using this
    · have ih := bndL_band L y0 y1 E hE hne j h0 (by omega)
      rw [bndL_add hr ?_, ih, addE_snoc]
      · rw [not_or]
        refine ⟨by omega, ?_⟩
        obtain ⟨xc, hc⟩ := list_at (show 2 * (j - 1) < E.length by omega)
        obtain ⟨xd, hd⟩ := list_at (show 2 * (j - 1) + 1 < E.length by omega)
        have hg' := bandE_get y0 y1 E (j - 1) xc xd hc hd
        rw [List.getElem?_append_right (by omega), show L.length + j - 1 - L.length = j - 1 from by omega, hg']
        simp
theorem bndL_rects : ∀ (n : Nat) (B : List Bn), B.length = n → Gd B → bndL (rectsL B) (rectsL B).length = B
  | 0, B, hn, _ => by
    have : B = [] := List.eq_nil_of_length_eq_zero hn
    subst this; rfl
  | n + 1, B, hn, hB => by
    rcases List.eq_nil_or_concat B with rfl | ⟨l, t, rfl⟩
    · simp at hn
    rw [List.concat_eq_append] at *
    have hl : Gd l := ⟨⟨fun b hb => hB.ok b (by simp [hb]), (List.pairwise_append.1 hB.seq).1⟩, fun b hb => hB.full b (by simp [hb])⟩
    have ih := bndL_rects n l (by simp at hn; omega) hl
    have ht := hB.ok t (by simp)
    have htf := hB.full t (by simp)
    have hev := ht.2.2
    have hlen : 0 < t.E.length := List.length_pos_iff.2 htf
    have he : rectsL (l ++ [t]) = rectsL l ++ bandE t.y0 t.y1 t.E := by
      rw [rectsL_app]; show _ = _; rw [show rectsL [t] = bandE t.y0 t.y1 t.E ++ [] from rfl, List.append_nil]
    rw [he, List.length_append, bandE_len]
    rw [bndL_band (rectsL l) t.y0 t.y1 t.E ht.2.2 ?_ (t.E.length / 2) (by omega) (by omega)]
    · rw [ih, show 2 * (t.E.length / 2) = t.E.length from by omega, List.take_length]
    · intro r hr
      obtain ⟨b, h1, h2⟩ := (rects_mem l r).1 (List.mem_of_getElem? hr)
      obtain ⟨q1, q2, _, _⟩ := bandE_mem _ _ _ _ h2
      have hs := ((List.pairwise_append.1 hB.seq).2.2 b h1 t (by simp)).1
      have := (hB.ok b (by simp [h1])).1
      omega
theorem IsReg.bands {L : List Rc} (h : IsReg L) : Gd (bndL L L.length) ∧ rectsL (bndL L L.length) = L := by
  obtain ⟨B, hB, rfl⟩ := h
  rw [bndL_rects _ B rfl hB]
  exact ⟨hB, rfl⟩

end Go.Proofs.Ytafceieenhogpaa
