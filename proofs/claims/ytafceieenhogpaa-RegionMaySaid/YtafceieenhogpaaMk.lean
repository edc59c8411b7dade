/-
  What is proved: plain mathematics: which lists of rectangles are regions, by the document's words and by bands. No program.
-/
import Derived.Test.YtafceieenhogpaaMa
namespace Go.Proofs.Ytafceieenhogpaa
open Go.RowKit Go.Sort

instance : Inhabited Rc := ⟨⟨0, 0, 0, 0⟩⟩
def rcAt (L : List Rc) (i : Nat) : Rc := L.getD i ⟨0, 0, 0, 0⟩
theorem rcAt_of {L : List Rc} {i : Nat} {r : Rc} (h : L[i]? = some r) : rcAt L i = r := by unfold rcAt; rw [List.getD_eq_getElem?_getD, h]; rfl
theorem at_rc {L : List Rc} {i : Nat} (h : i < L.length) : L[i]? = some (rcAt L i) := by
  obtain ⟨r, hr⟩ := list_at h
  rw [rcAt_of hr, hr]
/-- Two rectangles stand in one band. -/
def same (p r : Rc) : Prop := p.b = r.b ∧ p.d = r.d
theorem same_trans {p q r : Rc} (h : same p q) (k : same q r) : same p r := ⟨h.1.trans k.1, h.2.trans k.2⟩
theorem same_symm {p q : Rc} (h : same p q) : same q p := ⟨h.1.symm, h.2.symm⟩
def okAt (L : List Rc) (i : Nat) : Prop := emptyB (rcAt L i).a (rcAt L i).b (rcAt L i).c (rcAt L i).d = false ∧ (0 < i → flwB (rcAt L (i - 1)) (rcAt L i) = true)
/-- All from s up to e stand in one band. -/
def Alk (L : List Rc) (s e : Nat) : Prop := s < e ∧ e ≤ L.length ∧ ∀ j, s ≤ j → j < e → same (rcAt L s) (rcAt L j)
theorem Alk.one {L : List Rc} {q : Nat} (h : q < L.length) : Alk L q (q + 1) := ⟨by omega, by omega, fun j h1 h2 => by
  obtain rfl : j = q := by omega
  exact ⟨rfl, rfl⟩⟩
structure Run (L : List Rc) (s e : Nat) : Prop where
  alk : Alk L s e
  low : s = 0 ∨ ¬ same (rcAt L (s - 1)) (rcAt L s)
  top : e = L.length ∨ ¬ same (rcAt L s) (rcAt L e)
theorem Run.low_one {L : List Rc} {s s' q : Nat} (h : Run L s q) (k : Run L s' q) : s = s' := by
  rcases Nat.lt_trichotomy s s' with hlt | heq | hgt
  · exfalso
    rcases k.low with h0 | h0
    · omega
    · have h1 := h.alk.2.2 (s' - 1) (by omega) (by have := k.alk.1; omega)
      have h2 := h.alk.2.2 s' (by omega) (k.alk.1)
      exact h0 (same_trans (same_symm h1) h2)
  · exact heq
  · exfalso
    rcases h.low with h0 | h0
    · omega
    · have h1 := k.alk.2.2 (s - 1) (by omega) (by have := h.alk.1; omega)
      have h2 := k.alk.2.2 s (by omega) (h.alk.1)
      exact h0 (same_trans (same_symm h1) h2)
theorem Run.top_one {L : List Rc} {q e e' : Nat} (h : Run L q e) (k : Run L q e') : e = e' := by
  rcases Nat.lt_trichotomy e e' with hlt | heq | hgt
  · exfalso
    rcases h.top with h0 | h0
    · have := k.alk.2.1; omega
    · exact h0 (k.alk.2.2 e (by have := h.alk.1; omega) hlt)
  · exact heq
  · exfalso
    rcases k.top with h0 | h0
    · have := h.alk.2.1; omega
    · exact h0 (h.alk.2.2 e' (by have := k.alk.1; omega) hgt)
/-- At q no two bands meet that are alike. -/
def noAl (L : List Rc) (q : Nat) : Prop := ∀ s e, Run L s q → Run L q e → ¬ ((rcAt L (q - 1)).d = (rcAt L q).b ∧ spansB ((L.drop s).take (q - s)) ((L.drop q).take (e - q)) = true)
def mayP (L : List Rc) : Prop := (∀ i, i < L.length → okAt L i) ∧ ∀ q, 0 < q → q < L.length → ¬ same (rcAt L (q - 1)) (rcAt L q) → noAl L q
/-- Where the document's May stands. -/
structure DocI (L : List Rc) (fr i : Nat) : Prop where
  le : i ≤ L.length
  zero : i = 0 → fr = 0
  alk : 0 < i → Alk L fr i
  low : fr = 0 ∨ ¬ same (rcAt L (fr - 1)) (rcAt L fr)
  ok : ∀ j, j < i → okAt L j
  al : ∀ q, 0 < q → q < i → ¬ same (rcAt L (q - 1)) (rcAt L q) → noAl L q
theorem DocI.start (L : List Rc) : DocI L 0 0 := ⟨Nat.zero_le _, fun _ => rfl, fun h => absurd h (by omega), .inl rfl, fun j h => absurd h (by omega), fun q _ h => absurd h (by omega)⟩
theorem DocI.done {L : List Rc} {fr : Nat} (h : DocI L fr L.length) : mayP L := ⟨h.ok, h.al⟩
theorem may_bad {L : List Rc} {i : Nat} (hi : i < L.length) (h : ¬ okAt L i) : ¬ mayP L := fun k => h (k.1 i hi)
theorem DocI.first {L : List Rc} (hi : 0 < L.length) (he : emptyB (rcAt L 0).a (rcAt L 0).b (rcAt L 0).c (rcAt L 0).d = false) : DocI L 0 1 :=
  ⟨by omega, fun h => absurd h (by omega), fun _ => Alk.one hi, .inl rfl, fun j hj => by
    obtain rfl : j = 0 := by omega
    exact ⟨he, fun h => absurd h (by omega)⟩, fun q h1 h2 => absurd h2 (by omega)⟩
theorem DocI.go {L : List Rc} {fr i : Nat} (h : DocI L fr i) (h0 : 0 < i) (hi : i < L.length) (hs : same (rcAt L (i - 1)) (rcAt L i)) (hok : okAt L i) : DocI L fr (i + 1) := by
  obtain ⟨a1, a2, a3⟩ := h.alk h0
  refine ⟨by omega, fun e => absurd e (by omega), fun _ => ⟨by omega, by omega, fun j h1 h2 => ?_⟩, h.low, fun j hj => ?_, fun q h1 h2 hq => ?_⟩
  · by_cases hj : j < i
    · exact a3 j h1 hj
    · obtain rfl : j = i := by omega
      exact same_trans (a3 (j - 1) (by omega) (by omega)) hs
  · by_cases hj' : j < i
    · exact h.ok j hj'
    · obtain rfl : j = i := by omega
      exact hok
  · by_cases hq' : q < i
    · exact h.al q h1 hq' hq
    · obtain rfl : q = i := by omega
      exact absurd hs hq
theorem DocI.run {L : List Rc} {fr i : Nat} (h : DocI L fr i) (h0 : 0 < i) (hs : ¬ same (rcAt L (i - 1)) (rcAt L i)) : Run L fr i :=
  ⟨h.alk h0, h.low, .inr fun k => hs (same_trans (same_symm ((h.alk h0).2.2 (i - 1) (by have := (h.alk h0).1; omega) (by omega))) k)⟩
theorem DocI.next {L : List Rc} {fr i e : Nat} (h : DocI L fr i) (h0 : 0 < i) (hi : i < L.length) (hs : ¬ same (rcAt L (i - 1)) (rcAt L i)) (hok : okAt L i) (hr : Run L i e)
    (hn : ¬ ((rcAt L (i - 1)).d = (rcAt L i).b ∧ spansB ((L.drop fr).take (i - fr)) ((L.drop i).take (e - i)) = true)) : DocI L i (i + 1) := by
  refine ⟨by omega, fun e => absurd e (by omega), fun _ => Alk.one hi, .inr hs, fun j hj => ?_, fun q h1 h2 hq => ?_⟩
  · by_cases hj' : j < i
    · exact h.ok j hj'
    · obtain rfl : j = i := by omega
      exact hok
  · by_cases hq' : q < i
    · exact h.al q h1 hq' hq
    · obtain rfl : q = i := by omega
      intro s e' k1 k2
      rw [k1.low_one (h.run h0 hs), k2.top_one hr]
      exact hn
theorem DocI.bad {L : List Rc} {fr i e : Nat} (h : DocI L fr i) (h0 : 0 < i) (hi : i < L.length) (hs : ¬ same (rcAt L (i - 1)) (rcAt L i)) (hr : Run L i e)
    (hn : (rcAt L (i - 1)).d = (rcAt L i).b ∧ spansB ((L.drop fr).take (i - fr)) ((L.drop i).take (e - i)) = true) : ¬ mayP L := fun k => k.2 i h0 hi hs fr e (h.run h0 hs) hr hn

/-- Bands of a row that may be, but for bands that meet and are alike. -/
structure Sk (B : List Bn) : Prop where
  ok : ∀ b ∈ B, b.y0 < b.y1 ∧ b.E.length % 2 = 0 ∧ b.E ≠ []
  seq : ∀ j b b', B[j]? = some b → B[j + 1]? = some b' → b.y1 ≤ b'.y0
theorem rectsL_one (b : Bn) : rectsL [b] = bandE b.y0 b.y1 b.E := by show bandE b.y0 b.y1 b.E ++ [] = _; rw [List.append_nil]
/-- What the bands of the first k rectangles are. -/
structure BkI (L : List Rc) (k : Nat) : Prop where
  sk : Sk (bndL L k)
  rects : rectsL (bndL L k) = L.take k
  last : 0 < k → ∃ l t, bndL L k = l ++ [t] ∧ t.y0 = (rcAt L (k - 1)).b ∧ t.y1 = (rcAt L (k - 1)).d
theorem bk_all {L : List Rc} (hok : ∀ i, i < L.length → okAt L i) : ∀ k, k ≤ L.length → BkI L k
  | 0, _ => ⟨⟨by simp [bndL], by simp [bndL]⟩, rfl, fun h => absurd h (by omega)⟩
  | k + 1, hk => by
    have ih := bk_all hok k (by omega)
    have hr := at_rc (L := L) (i := k) (by omega)
    obtain ⟨h1, h2⟩ := hok k (by omega)
    generalize hrr : rcAt L k = r at *
    have hne : r.b < r.d := by unfold emptyB at h1; simp at h1; omega
    have htk : L.take (k + 1) = L.take k ++ [r] := take_more hr
    by_cases hc : k = 0 ∨ (L[k - 1]?).map (·.b) ≠ some r.b
    · have hb := bndL_new hr hc
      refine ⟨⟨fun b hbm => ?_, fun j b b' hj hj' => ?_⟩, ?_, fun _ => ⟨_, _, hb, by rw [Nat.add_sub_cancel, hrr], by rw [Nat.add_sub_cancel, hrr]⟩⟩
      · rw [hb, List.mem_append] at hbm
        rcases hbm with hbm | hbm
        · exact ih.sk.ok b hbm
        · simp at hbm; subst hbm; exact ⟨hne, by simp, by simp⟩
      · rw [hb] at hj hj'
        by_cases hlt : j + 1 < (bndL L k).length
        · rw [List.getElem?_append_left (by omega)] at hj hj'
          exact ih.sk.seq j b b' hj hj'
        · have hl := get_lt hj'
          rw [List.length_append, List.length_singleton] at hl
          rcases Nat.eq_zero_or_pos k with h0 | h0
          · subst h0; simp [bndL] at hl
          · obtain ⟨l, t, hlt', ht0, ht1⟩ := ih.last h0
            rw [hlt'] at hj hj' hl hlt
            simp at hl hlt
            obtain rfl : j = l.length := by omega
            rw [List.append_assoc, List.getElem?_append_right (Nat.le_refl _)] at hj
            rw [List.append_assoc, List.getElem?_append_right (by omega)] at hj'
            simp at hj hj'
            subst hj hj'
            have hf := h2 h0
            have hp := at_rc (L := L) (i := k - 1) (by omega)
            rcases hc with hc | hc
            · omega
            · rw [hp] at hc
              unfold flwB at hf
              rw [if_neg (fun h => hc (by rw [← h.1]; rfl))] at hf
              rw [ht1]
              exact of_decide_eq_true hf
      · rw [hb, rectsL_app, ih.rects, htk, rectsL_one]
        rfl
    · have hk0 : 0 < k := by
        rcases Nat.eq_zero_or_pos k with h | h
        · exact absurd (.inl h) hc
        · exact h
      have hb := bndL_add hr hc
      obtain ⟨l, t, hlt, ht0, ht1⟩ := ih.last hk0
      rw [hlt, addE_snoc] at hb
      have hp := at_rc (L := L) (i := k - 1) (by omega)
      have hbb : (rcAt L (k - 1)).b = r.b := by
        have h3 : (L[k - 1]?).map (·.b) = some r.b := by
          by_cases h4 : (L[k - 1]?).map (·.b) = some r.b
          · exact h4
          · exact absurd (.inr h4) hc
        rw [hp] at h3
        simpa using h3
      have hpne : (rcAt L (k - 1)).b < (rcAt L (k - 1)).d := by
        have := (hok (k - 1) (by omega)).1
        unfold emptyB at this; simp at this; omega
      have hdd : (rcAt L (k - 1)).d = r.d := by
        have hf := h2 hk0
        unfold flwB at hf
        by_cases h3 : (rcAt L (k - 1)).d = r.d
        · exact h3
        · rw [if_neg (fun h => h3 h.2)] at hf
          have := of_decide_eq_true hf
          omega
      have htm := ih.sk.ok t (by rw [hlt]; simp)
      refine ⟨⟨fun b hbm => ?_, fun j b b' hj hj' => ?_⟩, ?_, fun _ => ⟨_, _, hb, by rw [Nat.add_sub_cancel, hrr]; exact ht0.trans hbb, by rw [Nat.add_sub_cancel, hrr]; exact ht1.trans hdd⟩⟩
      · rw [hb, List.mem_append] at hbm
        rcases hbm with hbm | hbm
        · exact ih.sk.ok b (by rw [hlt]; simp [hbm])
        · simp at hbm; subst hbm
          refine ⟨htm.1, by simp; omega, by simp⟩
      · have hseq := ih.sk.seq
        rw [hlt] at hseq
        rw [hb] at hj hj'
        by_cases h5 : j + 1 < l.length
        · rw [List.getElem?_append_left (by omega)] at hj hj'
          exact hseq j b b' (by rw [List.getElem?_append_left (by omega)]; exact hj) (by rw [List.getElem?_append_left (by omega)]; exact hj')
        · have hl := get_lt hj'
          simp at hl
          obtain h6 : j + 1 = l.length := by omega
          rw [List.getElem?_append_left (by omega)] at hj
          rw [List.getElem?_append_right (by omega), h6] at hj'
          simp at hj'
          subst hj'
          exact hseq j b t (by rw [List.getElem?_append_left (by omega)]; exact hj) (by rw [List.getElem?_append_right (by omega), h6]; simp)
      · have he := ih.rects
        rw [hlt, rectsL_app, rectsL_one] at he
        rw [hb, rectsL_app, rectsL_one, htk, ← he]
        dsimp only
        rw [bandE_snoc _ _ _ _ _ htm.2.1, List.append_assoc, ht0.trans hbb, ht1.trans hdd]

theorem rc_band {B1 B2 : List Bn} {b : Bn} {j : Nat} (h : 2 * j + 1 < b.E.length) : (rcAt (rectsL (B1 ++ b :: B2)) ((rectsL B1).length + j)).b = b.y0 ∧ (rcAt (rectsL (B1 ++ b :: B2)) ((rectsL B1).length + j)).d = b.y1 := by
  obtain ⟨p, q, _, _, hs⟩ := band_at (y0 := b.y0) (y1 := b.y1) (E := b.E) (j := j) h
  have := rects_at (B1 := B1) (B2 := B2) (b := b) (j := j) (by rw [bandE_len]; omega)
  rw [hs] at this
  rw [rcAt_of this]
  exact ⟨rfl, rfl⟩
theorem rects_split : ∀ (B : List Bn), (∀ b ∈ B, b.E.length % 2 = 0) → ∀ i, i < (rectsL B).length → ∃ B1 b B2 j, B = B1 ++ b :: B2 ∧ 2 * j + 1 < b.E.length ∧ i = (rectsL B1).length + j
  | [], _, i, h => by simp [rectsL] at h
  | b :: l, hev, i, h => by
    have e : rectsL (b :: l) = bandE b.y0 b.y1 b.E ++ rectsL l := rfl
    rw [e, List.length_append, bandE_len] at h
    have hb := hev b (by simp)
    by_cases hi : i < b.E.length / 2
    · exact ⟨[], b, l, i, rfl, by omega, by simp [rectsL]⟩
    · obtain ⟨B1, c, B2, j, rfl, h1, h2⟩ := rects_split l (fun c hc => hev c (by simp [hc])) (i - b.E.length / 2) (by omega)
      refine ⟨b :: B1, c, B2, j, rfl, h1, ?_⟩
      have e2 : rectsL (b :: B1) = bandE b.y0 b.y1 b.E ++ rectsL B1 := rfl
      rw [e2, List.length_append, bandE_len]; omega
theorem rl_snoc (B1 : List Bn) (b : Bn) : (rectsL (B1 ++ [b])).length = (rectsL B1).length + b.E.length / 2 := by
  rw [rectsL_app, List.length_append, rectsL_one, bandE_len]
theorem Sk.at {B1 B2 : List Bn} {b : Bn} (h : Sk (B1 ++ b :: B2)) : b.y0 < b.y1 ∧ b.E.length % 2 = 0 ∧ 2 ≤ b.E.length := by
  obtain ⟨h1, h2, h3⟩ := h.ok b (by simp)
  have := List.length_pos_iff.2 h3
  exact ⟨h1, h2, by omega⟩
theorem Sk.two {B1 B2 : List Bn} {p b : Bn} (h : Sk (B1 ++ p :: b :: B2)) : p.y1 ≤ b.y0 :=
  h.seq B1.length p b (by simp) (by simp)
theorem Sk.differ {B1 B2 : List Bn} {p b : Bn} (h : Sk (B1 ++ p :: b :: B2)) : ¬ same (rcAt (rectsL (B1 ++ p :: b :: B2)) ((rectsL (B1 ++ [p])).length - 1)) (rcAt (rectsL (B1 ++ p :: b :: B2)) (rectsL (B1 ++ [p])).length) ∧
    (rcAt (rectsL (B1 ++ p :: b :: B2)) ((rectsL (B1 ++ [p])).length - 1)).d = p.y1 ∧ (rcAt (rectsL (B1 ++ p :: b :: B2)) (rectsL (B1 ++ [p])).length).b = b.y0 := by
  have hp := h.at
  have h12 := h.two
  have hb := (show Sk ((B1 ++ [p]) ++ b :: B2) by simpa using h).at
  have l1 := rl_snoc B1 p
  have r1 := rc_band (B1 := B1) (B2 := b :: B2) (b := p) (j := p.E.length / 2 - 1) (by omega)
  rw [show (rectsL B1).length + (p.E.length / 2 - 1) = (rectsL (B1 ++ [p])).length - 1 by omega] at r1
  have r2 := rc_band (B1 := B1 ++ [p]) (B2 := B2) (b := b) (j := 0) (by omega)
  rw [Nat.add_zero, show (B1 ++ [p]) ++ b :: B2 = B1 ++ p :: b :: B2 by simp] at r2
  refine ⟨fun hs => ?_, r1.2, r2.1⟩
  have := hs.1
  rw [r1.1, r2.1] at this
  omega
theorem Sk.run {B1 B2 : List Bn} {b : Bn} (h : Sk (B1 ++ b :: B2)) : Run (rectsL (B1 ++ b :: B2)) (rectsL B1).length (rectsL (B1 ++ [b])).length := by
  have hb := h.at
  have l1 := rl_snoc B1 b
  have hlen : (rectsL (B1 ++ b :: B2)).length = (rectsL (B1 ++ [b])).length + (rectsL B2).length := by
    rw [show B1 ++ b :: B2 = (B1 ++ [b]) ++ B2 by simp, rectsL_app, List.length_append]
  have r0 := rc_band (B1 := B1) (B2 := B2) (b := b) (j := 0) (by omega)
  rw [Nat.add_zero] at r0
  refine ⟨⟨by omega, by omega, fun j h1 h2 => ?_⟩, ?_, ?_⟩
  · have r := rc_band (B1 := B1) (B2 := B2) (b := b) (j := j - (rectsL B1).length) (by omega)
    rw [show (rectsL B1).length + (j - (rectsL B1).length) = j by omega] at r
    exact ⟨r0.1.trans r.1.symm, r0.2.trans r.2.symm⟩
  · rcases List.eq_nil_or_concat B1 with rfl | ⟨l, p, rfl⟩
    · left; rfl
    · right
      rw [List.concat_eq_append] at *
      have := (show Sk (l ++ p :: b :: B2) by simpa using h).differ.1
      simpa using this
  · cases B2 with
    | nil => left; rw [hlen]
    | cons c B3 =>
      right
      intro hs
      have h' : Sk (B1 ++ b :: c :: B3) := h
      obtain ⟨d1, _, d3⟩ := h'.differ
      have d2 := h'.two
      have := hs.1
      rw [r0.1, d3] at this
      omega
theorem Sk.meets {B1 B2 : List Bn} {p b : Bn} (h : Sk (B1 ++ p :: b :: B2)) : spansB (((rectsL (B1 ++ p :: b :: B2)).drop (rectsL B1).length).take ((rectsL (B1 ++ [p])).length - (rectsL B1).length)) (((rectsL (B1 ++ p :: b :: B2)).drop (rectsL (B1 ++ [p])).length).take ((rectsL (B1 ++ [p] ++ [b])).length - (rectsL (B1 ++ [p])).length)) = decide (p.E = b.E) := by
  have hp := h.at
  have hb := (show Sk ((B1 ++ [p]) ++ b :: B2) by simpa using h).at
  have l1 := rl_snoc B1 p
  have l2 := rl_snoc (B1 ++ [p]) b
  have d1 : ((rectsL (B1 ++ p :: b :: B2)).drop (rectsL B1).length).take ((rectsL (B1 ++ [p])).length - (rectsL B1).length) = bandE p.y0 p.y1 p.E := by
    rw [show (rectsL (B1 ++ [p])).length - (rectsL B1).length = p.E.length / 2 by omega, rectsL_app B1 (p :: b :: B2), List.drop_left]
    show (bandE p.y0 p.y1 p.E ++ _).take _ = _
    rw [List.take_append_of_le_length (by rw [bandE_len]; omega), List.take_of_length_le (by rw [bandE_len]; omega)]
  have d2 : ((rectsL (B1 ++ p :: b :: B2)).drop (rectsL (B1 ++ [p])).length).take ((rectsL (B1 ++ [p] ++ [b])).length - (rectsL (B1 ++ [p])).length) = bandE b.y0 b.y1 b.E := by
    rw [show (rectsL (B1 ++ [p] ++ [b])).length - (rectsL (B1 ++ [p])).length = b.E.length / 2 by omega, show B1 ++ p :: b :: B2 = (B1 ++ [p]) ++ b :: B2 by simp, rectsL_app (B1 ++ [p]) (b :: B2), List.drop_left]
    show (bandE b.y0 b.y1 b.E ++ _).take _ = _
    rw [List.take_append_of_le_length (by rw [bandE_len]; omega), List.take_of_length_le (by rw [bandE_len]; omega)]
  rw [d1, d2, spans_band hp.2.1 hb.2.1]
/-- Of a row whose rectangles follow one another the document's word is the bands'. -/
theorem may_bands {L : List Rc} (hok : ∀ i, i < L.length → okAt L i) : (mayP L ↔ ∀ j p b, (bndL L L.length)[j]? = some p → (bndL L L.length)[j + 1]? = some b → goesB p b = false) := by
  obtain ⟨hS, hR, _⟩ := bk_all hok L.length (Nat.le_refl _)
  rw [List.take_length] at hR
  generalize bndL L L.length = B at *
  subst hR
  constructor
  · intro hm j p b hp hb
    obtain ⟨B1, B2, rfl, hj⟩ : ∃ B1 B2, B = B1 ++ p :: b :: B2 ∧ B1.length = j := by
      have h1 := get_lt hp
      have h2 := get_lt hb
      rw [List.getElem?_eq_getElem h1] at hp
      rw [List.getElem?_eq_getElem h2] at hb
      injection hp with hp
      injection hb with hb
      refine ⟨B.take j, B.drop (j + 2), ?_, by rw [List.length_take]; omega⟩
      have e1 := List.drop_eq_getElem_cons h1
      have e2 := List.drop_eq_getElem_cons h2
      rw [hp] at e1
      rw [hb] at e2
      rw [← e2, ← e1, List.take_append_drop]
    have hS2 : Sk ((B1 ++ [p]) ++ b :: B2) := by simpa using hS
    obtain ⟨d1, d2, d3⟩ := hS.differ
    have hq : 0 < (rectsL (B1 ++ [p])).length := by have := rl_snoc B1 p; have := hS.at; omega
    have hq2 : (rectsL (B1 ++ [p])).length < (rectsL (B1 ++ p :: b :: B2)).length := by
      obtain ⟨a1, a2, _⟩ := hS2.run.alk
      rw [show (B1 ++ [p]) ++ b :: B2 = B1 ++ p :: b :: B2 by simp] at a2
      omega
    have hn := hm.2 _ hq hq2 d1 _ _ hS.run (by have := hS2.run; rwa [show (B1 ++ [p]) ++ b :: B2 = B1 ++ p :: b :: B2 by simp] at this)
    rw [d2, d3, hS.meets, decide_eq_true_iff] at hn
    unfold goesB
    exact decide_eq_false hn
  · intro hg
    refine ⟨hok, fun q h1 h2 hs => ?_⟩
    obtain ⟨B1, b, B2, j, rfl, hj, rfl⟩ := rects_split B (fun c hc => (hS.ok c hc).2.1) q h2
    rcases Nat.eq_zero_or_pos j with rfl | hj0
    · rw [Nat.add_zero] at *
      rcases List.eq_nil_or_concat B1 with rfl | ⟨l, p, rfl⟩
      · simp [rectsL] at h1
      · rw [List.concat_eq_append] at *
        have e : (l ++ [p]) ++ b :: B2 = l ++ p :: b :: B2 := by simp
        have hrun := hS.run
        have hS' : Sk (l ++ p :: b :: B2) := by rw [← e]; exact hS
        rw [e] at hrun hg ⊢
        intro s e' k1 k2
        rw [k1.low_one hS'.run, k2.top_one hrun, hS'.differ.2.1, hS'.differ.2.2, hS'.meets, decide_eq_true_iff]
        have := hg l.length p b (by simp) (by simp)
        unfold goesB at this
        exact of_decide_eq_false this
    · exfalso
      have r1 := rc_band (B1 := B1) (B2 := B2) (b := b) (j := j) hj
      have r2 := rc_band (B1 := B1) (B2 := B2) (b := b) (j := j - 1) (by omega)
      rw [show (rectsL B1).length + (j - 1) = (rectsL B1).length + j - 1 by omega] at r2
      exact hs ⟨r2.1.trans r1.1.symm, r2.2.trans r1.2.symm⟩
theorem sk_le {B : List Bn} (hB : Sk B) : B.length ≤ (rectsL B).length := by
  have : ∀ l : List Bn, (∀ b ∈ l, 2 ≤ b.E.length) → l.length ≤ (rectsL l).length := by
    intro l
    induction l with
    | nil => intro _; simp
    | cons b l ih =>
      intro h
      have h1 := h b (by simp)
      have h2 := ih (fun c hc => h c (by simp [hc]))
      have e : rectsL (b :: l) = bandE b.y0 b.y1 b.E ++ rectsL l := rfl
      rw [e, List.length_append, bandE_len, List.length_cons]; omega
  exact this B fun b hb => by
    obtain ⟨_, h2, h3⟩ := hB.ok b hb
    have := List.length_pos_iff.2 h3
    omega

end Go.Proofs.Ytafceieenhogpaa
