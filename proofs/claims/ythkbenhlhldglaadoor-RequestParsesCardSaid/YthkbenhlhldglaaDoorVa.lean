/-
  What is proved: plain mathematics of texts and their signs (bytes of UTF-8, read one sign after another). No program, no conditions.
-/
import Derived.Lib.DecodeN
import Derived.Lib.RuneBytes
namespace Go.Proofs.YthkbenhlhldglaaDoor
open Go.Lib (decodeN encodeRune encodeRuneZ)

/-- A sign: its bytes, its number, whether it is broken. -/
structure Sg where
  bs : List UInt8
  r : Int
  bad : Bool

def nb (l : List UInt8) (k : Nat) : Nat := (l.getD k 0).toNat
def dcL (l : List UInt8) : Nat × Nat := decodeN l.length (nb l 0) (nb l 1) (nb l 2) (nb l 3)
def isBad (d : Nat × Nat) : Bool := decide (d.1 = 65533 ∧ d.2 = 1)
def sg1 (l : List UInt8) : Sg := ⟨l.take (dcL l).2, ((dcL l).1 : Int), isBad (dcL l)⟩
def sgF : Nat → List UInt8 → List Sg
  | 0, _ => []
  | f + 1, l => if l = [] then [] else sg1 l :: sgF f (l.drop (dcL l).2)
def sgs (l : List UInt8) : List Sg := sgF l.length l

theorem nb_lt (l : List UInt8) (k : Nat) : nb l k < 256 := UInt8.toNat_lt _
theorem decodeN_w (n b0 b1 b2 b3 : Nat) (hn : 1 ≤ n) : 1 ≤ (decodeN n b0 b1 b2 b3).2 ∧ (decodeN n b0 b1 b2 b3).2 ≤ n := by
  unfold decodeN
  repeat' split
  all_goals dsimp only
  all_goals omega
theorem dcL_w {l : List UInt8} (h : l ≠ []) : 1 ≤ (dcL l).2 ∧ (dcL l).2 ≤ l.length := decodeN_w _ _ _ _ _ (by cases l; exact absurd rfl h; simp)
theorem sgF_any : ∀ (f g : Nat) (l : List UInt8), l.length ≤ f → l.length ≤ g → sgF f l = sgF g l
  | 0, g, l, hf, _ => by
    have : l = [] := List.eq_nil_of_length_eq_zero (by omega)
    subst this
    cases g <;> rfl
  | f + 1, 0, l, _, hg => by
    have : l = [] := List.eq_nil_of_length_eq_zero (by omega)
    subst this
    rfl
  | f + 1, g + 1, l, hf, hg => by
    by_cases h : l = []
    · subst h; rfl
    · unfold sgF
      rw [if_neg h, if_neg h]
      have := dcL_w h
      rw [sgF_any f g (l.drop (dcL l).2) (by simp; omega) (by simp; omega)]
theorem sgs_nil : sgs [] = [] := rfl
theorem sgs_step {l : List UInt8} (h : l ≠ []) : sgs l = sg1 l :: sgs (l.drop (dcL l).2) := by
  have hw := dcL_w h
  unfold sgs
  obtain ⟨n, hn⟩ : ∃ n, l.length = n + 1 := ⟨l.length - 1, by have := hw.2; omega⟩
  rw [hn]
  conv => lhs; unfold sgF
  rw [if_neg h]
  rw [sgF_any n (l.drop (dcL l).2).length _ (by simp; omega) (Nat.le_refl _)]

/-- The numbers that a sign may have. -/
def Vr (c : Int) : Prop := (0 ≤ c ∧ c < 55296) ∨ (57343 < c ∧ c ≤ 1114111)
def good (c : Int) : Sg := ⟨encodeRune c, c, false⟩

theorem nb0 (x : UInt8) (l : List UInt8) : nb (x :: l) 0 = x.toNat := rfl
theorem nbS (x : UInt8) (l : List UInt8) (k : Nat) : nb (x :: l) (k + 1) = nb l k := rfl
theorem nb1 (x y : UInt8) (l : List UInt8) : nb (x :: y :: l) 1 = y.toNat := rfl
theorem nb2 (x y z : UInt8) (l : List UInt8) : nb (x :: y :: z :: l) 2 = z.toNat := rfl
theorem nb3 (x y z u : UInt8) (l : List UInt8) : nb (x :: y :: z :: u :: l) 3 = u.toNat := rfl
theorem u8 (x : Int) (_ : 0 ≤ x) (h1 : x < 256) : (x.toNat.toUInt8).toNat = x.toNat := by
  simp [Nat.toUInt8]; omega

set_option maxHeartbeats 1000000 in
/-- What is written out is read as it was. -/
theorem dc_enc {c : Int} (h : Vr c) (t : List UInt8) : dcL (encodeRune c ++ t) = (c.toNat, (encodeRune c).length) := by
  unfold Vr at h
  by_cases h1 : c ≤ 127
  · have e : encodeRuneZ c = [c] := Lib.encodeRuneZ_one (by omega) h1
    unfold encodeRune dcL
    rw [e]
    simp only [List.map_cons, List.map_nil, List.cons_append, List.nil_append, nb0, List.length_cons, List.length_nil]
    rw [u8 c (by omega) (by omega)]
    unfold decodeN
    rw [if_pos (by omega)]
  · by_cases h2 : c ≤ 2047
    · have e := Lib.encodeRuneZ_two (r := c) (by omega) h2
      unfold encodeRune dcL
      rw [e]
      simp only [List.map_cons, List.map_nil, List.cons_append, List.nil_append, nb0, nb1, List.length_cons, List.length_nil]
      rw [u8 (192 + c / 64) (by omega) (by omega), u8 (128 + c % 64) (by omega) (by omega)]
      unfold decodeN
      rw [if_neg (by omega), if_pos (by omega), if_pos (by omega)]
      congr 1
      omega
    · by_cases h3 : c ≤ 65535
      · have e := Lib.encodeRuneZ_three (r := c) (by omega)
        unfold encodeRune dcL
        rw [e]
        simp only [List.map_cons, List.map_nil, List.cons_append, List.nil_append, nb0, nb1, nb2, List.length_cons, List.length_nil]
        rw [u8 (224 + c / 4096) (by omega) (by omega), u8 (128 + c / 64 % 64) (by omega) (by omega), u8 (128 + c % 64) (by omega) (by omega)]
        unfold decodeN
        rw [if_neg (by omega), if_neg (by omega), if_pos (by omega), if_pos (by omega)]
        congr 1
        omega
      · have e := Lib.encodeRuneZ_four (r := c) (by omega) (by omega)
        unfold encodeRune dcL
        rw [e]
        simp only [List.map_cons, List.map_nil, List.cons_append, List.nil_append, nb0, nb1, nb2, nb3, List.length_cons, List.length_nil]
        rw [u8 (240 + c / 262144) (by omega) (by omega), u8 (128 + c / 4096 % 64) (by omega) (by omega), u8 (128 + c / 64 % 64) (by omega) (by omega), u8 (128 + c % 64) (by omega) (by omega)]
        unfold decodeN
        rw [if_neg (by omega), if_neg (by omega), if_neg (by omega), if_pos (by omega), if_pos (by omega)]
        congr 1
        omega

theorem u8_of {x : UInt8} {n : Int} (h : n = (x.toNat : Int)) : n.toNat.toUInt8 = x := by
  subst h
  apply UInt8.toNat_inj.1
  simp [Nat.toUInt8]

theorem two_of {x : UInt8} {l : List UInt8} (h : 1 < (x :: l).length) : ∃ y t, l = y :: t := by
  match l, h with
  | [], h => simp at h
  | y :: t, _ => exact ⟨y, t, rfl⟩
theorem three_of {x : UInt8} {l : List UInt8} (h : 2 < (x :: l).length) : ∃ y z t, l = y :: z :: t := by
  match l, h with
  | [], h => simp at h
  | [_], h => simp at h
  | y :: z :: t, _ => exact ⟨y, z, t, rfl⟩
theorem four_of {x : UInt8} {l : List UInt8} (h : 3 < (x :: l).length) : ∃ y z u t, l = y :: z :: u :: t := by
  match l, h with
  | [], h => simp at h
  | [_], h => simp at h
  | [_, _], h => simp at h
  | y :: z :: u :: t, _ => exact ⟨y, z, u, t, rfl⟩
set_option maxHeartbeats 2000000 in
/-- What is read, and not broken, is what would be written out. -/
theorem enc_dc {l : List UInt8} (h : l ≠ []) (hb : isBad (dcL l) = false) : Vr ((dcL l).1 : Int) ∧ l.take (dcL l).2 = encodeRune ((dcL l).1 : Int) := by
  unfold isBad at hb
  have hb' : ¬ ((dcL l).1 = 65533 ∧ (dcL l).2 = 1) := by simpa using hb
  clear hb
  obtain ⟨x, l1, rfl⟩ : ∃ x l1, l = x :: l1 := by cases l with | nil => exact absurd rfl h | cons x l1 => exact ⟨x, l1, rfl⟩
  have hx := x.toNat_lt
  unfold dcL at hb' ⊢
  rw [nb0] at hb' ⊢
  unfold decodeN at hb' ⊢
  by_cases c1 : x.toNat < 128
  · rw [if_pos c1] at hb' ⊢
    refine ⟨.inl ⟨by dsimp only; omega, by dsimp only; omega⟩, ?_⟩
    unfold encodeRune
    dsimp only
    rw [Lib.encodeRuneZ_one (by omega) (by omega)]
    simp only [List.take_succ_cons, List.take_zero, List.map_cons, List.map_nil]
    rw [u8_of rfl]
  · rw [if_neg c1] at hb' ⊢
    by_cases c2 : x.toNat / 32 = 6 ∧ (1 < (x :: l1).length ∧ nb (x :: l1) 1 / 64 = 2)
    · rw [if_pos c2] at hb' ⊢
      obtain ⟨y, l2, rfl⟩ := two_of c2.2.1
      have hy := y.toNat_lt
      rw [nb1] at *
      split at hb'
      · rename_i c3
        rw [if_pos c3]
        refine ⟨.inl ⟨by dsimp only; omega, by dsimp only; omega⟩, ?_⟩
        unfold encodeRune
        dsimp only
        rw [Lib.encodeRuneZ_two (by omega) (by omega)]
        simp only [List.take_succ_cons, List.take_zero, List.map_cons, List.map_nil]
        rw [u8_of (x := x) (by omega), u8_of (x := y) (by omega)]
      · exact absurd ⟨rfl, rfl⟩ hb'
    · rw [if_neg c2] at hb' ⊢
      clear c2
      by_cases c3 : x.toNat / 16 = 14 ∧ (1 < (x :: l1).length ∧ nb (x :: l1) 1 / 64 = 2) ∧ (2 < (x :: l1).length ∧ nb (x :: l1) 2 / 64 = 2)
      · rw [if_pos c3] at hb' ⊢
        obtain ⟨y, z, l2, rfl⟩ := three_of c3.2.2.1
        have hy := y.toNat_lt
        have hz := z.toNat_lt
        rw [nb1, nb2] at *
        split at hb'
        · rename_i c4
          rw [if_pos c4]
          refine ⟨by unfold Vr; dsimp only; omega, ?_⟩
          unfold encodeRune
          dsimp only
          rw [Lib.encodeRuneZ_three (by omega)]
          simp only [List.take_succ_cons, List.take_zero, List.map_cons, List.map_nil]
          rw [u8_of (x := x) (by omega), u8_of (x := y) (by omega), u8_of (x := z) (by omega)]
        · exact absurd ⟨rfl, rfl⟩ hb'
      · rw [if_neg c3] at hb' ⊢
        clear c3
        by_cases c4 : x.toNat / 8 = 30 ∧ (1 < (x :: l1).length ∧ nb (x :: l1) 1 / 64 = 2) ∧ (2 < (x :: l1).length ∧ nb (x :: l1) 2 / 64 = 2) ∧ (3 < (x :: l1).length ∧ nb (x :: l1) 3 / 64 = 2)
        · rw [if_pos c4] at hb' ⊢
          obtain ⟨y, z, u, l2, rfl⟩ := four_of c4.2.2.2.1
          have hy := y.toNat_lt
          have hz := z.toNat_lt
          have hu := u.toNat_lt
          rw [nb1, nb2, nb3] at *
          split at hb'
          · rename_i c5
            rw [if_pos c5]
            refine ⟨by unfold Vr; dsimp only; omega, ?_⟩
            unfold encodeRune
            dsimp only
            rw [Lib.encodeRuneZ_four (by omega) (by omega)]
            simp only [List.take_succ_cons, List.take_zero, List.map_cons, List.map_nil]
            rw [u8_of (x := x) (by omega), u8_of (x := y) (by omega), u8_of (x := z) (by omega), u8_of (x := u) (by omega)]
          · exact absurd ⟨rfl, rfl⟩ hb'
        · rw [if_neg c4] at hb'
          exact absurd ⟨rfl, rfl⟩ hb'

theorem enc_pos (c : Int) : 1 ≤ (encodeRune c).length ∧ (encodeRune c).length ≤ 4 := by
  have := Lib.encodeRuneZ_length c
  unfold encodeRune
  simpa using this
theorem enc_ne (c : Int) (t : List UInt8) : encodeRune c ++ t ≠ [] := by
  have := enc_pos c
  intro h
  have h2 := congrArg List.length h
  rw [List.length_append] at h2
  simp only [List.length_nil] at h2
  omega
theorem Vr.int {c : Int} (h : Vr c) : 0 ≤ c ∧ c ≤ 1114111 := by unfold Vr at h; omega
theorem not_bad_enc {c : Int} (h : Vr c) : isBad (c.toNat, (encodeRune c).length) = false := by
  unfold isBad
  simp only [decide_eq_false_iff_not]
  rintro ⟨h1, h2⟩
  have e : c = 65533 := by have := h.int; omega
  subst e
  revert h2
  decide
theorem sg1_enc {c : Int} (h : Vr c) (t : List UInt8) : sg1 (encodeRune c ++ t) = good c := by
  unfold sg1 good
  rw [dc_enc h]
  dsimp only
  rw [not_bad_enc h, List.take_left, Int.toNat_of_nonneg h.int.1]
theorem sgs_enc {c : Int} (h : Vr c) (t : List UInt8) : sgs (encodeRune c ++ t) = good c :: sgs t := by
  rw [sgs_step (enc_ne c t), sg1_enc h, dc_enc h, List.drop_left]
/-- Numbers written out, one behind the other. -/
def encs (cs : List Int) : List UInt8 := cs.flatMap encodeRune
theorem encs_cons (c : Int) (cs : List Int) : encs (c :: cs) = encodeRune c ++ encs cs := rfl
theorem encs_app (a b : List Int) : encs (a ++ b) = encs a ++ encs b := by simp [encs]
theorem sgs_encs : ∀ (cs : List Int) (t : List UInt8), (∀ c ∈ cs, Vr c) → sgs (encs cs ++ t) = cs.map good ++ sgs t
  | [], t, _ => by simp [encs]
  | c :: cs, t, h => by
    rw [encs_cons, List.append_assoc, sgs_enc (h c (by simp)), sgs_encs cs t (fun d hd => h d (by simp [hd]))]
    rfl
theorem sgs_encs0 (cs : List Int) (h : ∀ c ∈ cs, Vr c) : sgs (encs cs) = cs.map good := by
  have := sgs_encs cs [] h
  simpa [sgs_nil] using this
theorem encs_inj {a b : List Int} (ha : ∀ c ∈ a, Vr c) (hb : ∀ c ∈ b, Vr c) (h : encs a = encs b) : a = b := by
  have h1 := sgs_encs0 a ha
  rw [h, sgs_encs0 b hb] at h1
  have h2 := congrArg (List.map Sg.r) h1
  simpa [List.map_map, Function.comp_def, good] using h2.symm

/-- Each sign of a text: broken (one byte of 128 or more), or what would be written out. -/
def Sg.ok (x : Sg) : Prop := (x.bad = true ∧ x.r = 65533 ∧ ∃ b : UInt8, x.bs = [b] ∧ 128 ≤ b.toNat) ∨ (∃ c, Vr c ∧ x = good c)
theorem sg1_ok {l : List UInt8} (h : l ≠ []) : (sg1 l).ok := by
  cases hb : isBad (dcL l)
  · right
    obtain ⟨h1, h2⟩ := enc_dc h hb
    exact ⟨_, h1, by unfold sg1 good; rw [h2, hb]⟩
  · left
    have hb' : (dcL l).1 = 65533 ∧ (dcL l).2 = 1 := by simpa [isBad] using hb
    obtain ⟨x, l1, rfl⟩ : ∃ x l1, l = x :: l1 := by cases l with | nil => exact absurd rfl h | cons x l1 => exact ⟨x, l1, rfl⟩
    refine ⟨hb, by unfold sg1; dsimp only; rw [hb'.1]; rfl, x, by unfold sg1; dsimp only; rw [hb'.2]; rfl, ?_⟩
    rcases Nat.lt_or_ge x.toNat 128 with hlt | hge
    · have h1 := hb'.1
      unfold dcL decodeN at h1
      rw [nb0, if_pos hlt] at h1
      dsimp only at h1
      omega
    · exact hge
theorem sgF_ok : ∀ (f : Nat) (l : List UInt8), ∀ x ∈ sgF f l, x.ok
  | 0, _, x, h => by simp [sgF] at h
  | f + 1, l, x, h => by
    unfold sgF at h
    split at h
    · simp at h
    · rename_i hl
      rcases List.mem_cons.1 h with rfl | h
      · exact sg1_ok hl
      · exact sgF_ok f _ x h
theorem sgs_ok (l : List UInt8) : ∀ x ∈ sgs l, x.ok := sgF_ok _ _
theorem Sg.ok.len {x : Sg} (h : x.ok) : 1 ≤ x.bs.length ∧ x.bs.length ≤ 4 := by
  rcases h with ⟨_, _, b, hb, _⟩ | ⟨c, _, rfl⟩
  · rw [hb]; simp
  · exact enc_pos c
theorem Sg.ok.vr {x : Sg} (h : x.ok) : Vr x.r := by
  rcases h with ⟨_, hr, _⟩ | ⟨c, hc, rfl⟩
  · rw [hr]; unfold Vr; omega
  · exact hc

/-- The text again. -/
def glue (X : List Sg) : List UInt8 := X.flatMap Sg.bs
theorem glue_app (a b : List Sg) : glue (a ++ b) = glue a ++ glue b := by simp [glue]
theorem glue_sgF : ∀ (f : Nat) (l : List UInt8), l.length ≤ f → glue (sgF f l) = l
  | 0, l, h => by
    have : l = [] := List.eq_nil_of_length_eq_zero (by omega)
    subst this; rfl
  | f + 1, l, h => by
    unfold sgF
    split
    · rename_i e; rw [e]; rfl
    · rename_i hl
      have := dcL_w hl
      show (sg1 l).bs ++ glue (sgF f (l.drop (dcL l).2)) = l
      rw [glue_sgF f _ (by simp; omega)]
      exact List.take_append_drop _ _
theorem glue_sgs (l : List UInt8) : glue (sgs l) = l := glue_sgF _ _ (Nat.le_refl _)
theorem glue_good (cs : List Int) : glue (cs.map good) = encs cs := by
  unfold glue encs
  rw [List.flatMap_map]
  rfl

/-- The place of a text's sign k. -/
def pos (l : List UInt8) (k : Nat) : Nat := (glue ((sgs l).take k)).length
theorem pos_zero (l : List UInt8) : pos l 0 = 0 := rfl
theorem pos_end (l : List UInt8) : pos l (sgs l).length = l.length := by unfold pos; rw [List.take_length, glue_sgs]
theorem pos_succ {l : List UInt8} {k : Nat} {x : Sg} (h : (sgs l)[k]? = some x) : pos l (k + 1) = pos l k + x.bs.length := by
  unfold pos
  rw [List.take_add_one, h]
  simp [glue]
theorem pos_parts (l : List UInt8) (k : Nat) : glue ((sgs l).take k) ++ glue ((sgs l).drop k) = l := by
  rw [← glue_app, List.take_append_drop, glue_sgs]
theorem pos_take {l : List UInt8} {k : Nat} : glue ((sgs l).take k) = l.take (pos l k) := by
  have h2 : l.take (pos l k) = (glue ((sgs l).take k) ++ glue ((sgs l).drop k)).take (pos l k) := by rw [pos_parts]
  rw [h2]
  unfold pos
  rw [List.take_left]
theorem pos_drop {l : List UInt8} {k : Nat} : glue ((sgs l).drop k) = l.drop (pos l k) := by
  have h2 : l.drop (pos l k) = (glue ((sgs l).take k) ++ glue ((sgs l).drop k)).drop (pos l k) := by rw [pos_parts]
  rw [h2]
  unfold pos
  rw [List.drop_left]
theorem sgs_drop (l : List UInt8) : ∀ k, k ≤ (sgs l).length → sgs (l.drop (pos l k)) = (sgs l).drop k
  | 0, _ => by rw [pos_zero]; rfl
  | k + 1, h => by
    have ih := sgs_drop l k (by omega)
    obtain ⟨x, hx⟩ : ∃ x, (sgs l)[k]? = some x := ⟨_, List.getElem?_eq_getElem (by omega)⟩
    have hd : (sgs l).drop k = x :: (sgs l).drop (k + 1) := by
      rw [List.drop_eq_getElem_cons (by omega)]
      congr 1
      rw [List.getElem?_eq_getElem (by omega)] at hx
      exact Option.some.inj hx
    have hne : l.drop (pos l k) ≠ [] := fun e => by rw [e, hd] at ih; cases ih
    rw [sgs_step hne, hd] at ih
    injection ih with h1 h2
    rw [pos_succ hx, ← h2, ← List.drop_drop, ← h1]
    congr 2
    unfold sg1
    dsimp only
    rw [List.length_take]
    have := dcL_w hne
    omega
/-- What is read at the place of sign k. -/
theorem sgs_at {l : List UInt8} {k : Nat} {x : Sg} (h : (sgs l)[k]? = some x) : pos l k < l.length ∧ x = sg1 (l.drop (pos l k)) ∧ x.bs.length = (dcL (l.drop (pos l k))).2 := by
  have hk : k < (sgs l).length := by
    rcases Nat.lt_or_ge k (sgs l).length with h' | h'
    · exact h'
    · rw [List.getElem?_eq_none h'] at h; cases h
  have ih := sgs_drop l k (by omega)
  have hd : (sgs l).drop k = x :: (sgs l).drop (k + 1) := by
    rw [List.drop_eq_getElem_cons hk]
    congr 1
    rw [List.getElem?_eq_getElem hk] at h
    exact Option.some.inj h
  have hne : l.drop (pos l k) ≠ [] := fun e => by rw [e, hd] at ih; cases ih
  rw [sgs_step hne, hd] at ih
  injection ih with h1 h2
  refine ⟨?_, h1.symm, ?_⟩
  · rcases Nat.lt_or_ge (pos l k) l.length with h' | h'
    · exact h'
    · exact absurd (List.drop_eq_nil_of_le h') hne
  · rw [← h1]
    unfold sg1
    dsimp only
    rw [List.length_take]
    have := dcL_w hne
    omega
theorem pos_le (l : List UInt8) (k : Nat) : pos l k ≤ l.length := by
  have := congrArg List.length (pos_parts l k)
  rw [List.length_append] at this
  unfold pos
  omega
theorem pos_lt {l : List UInt8} {i j : Nat} (h : i < j) (hj : j ≤ (sgs l).length) : pos l i < pos l j := by
  induction j with
  | zero => omega
  | succ j ih =>
    obtain ⟨x, hx⟩ : ∃ x, (sgs l)[j]? = some x := ⟨_, List.getElem?_eq_getElem (by omega)⟩
    have h1 := (sgs_ok l x (List.mem_of_getElem? hx)).len
    rw [pos_succ hx]
    rcases Nat.lt_or_ge i j with h' | h'
    · have := ih h' (by omega); omega
    · have : i = j := by omega
      subst this; omega
theorem sgs_len (l : List UInt8) : (sgs l).length ≤ l.length := by
  have : ∀ k, k ≤ (sgs l).length → k ≤ pos l k := fun k => by
    induction k with
    | zero => intro _; omega
    | succ k ih =>
      intro hk
      have := ih (by omega)
      have := pos_lt (l := l) (show k < k + 1 by omega) hk
      omega
  have h1 := this _ (Nat.le_refl _)
  rw [pos_end] at h1
  exact h1

/-- The model's own reading. -/
theorem list_get! (s : ByteArray) (i : Nat) : (s.get! i).toNat = nb s.data.toList i := by
  unfold nb
  congr 1
  show s.data[i]! = _
  rw [List.getD_eq_getElem?_getD, Array.getElem?_toList]
  by_cases h : i < s.data.size
  · rw [getElem!_pos s.data i h, Array.getElem?_eq_getElem h]; rfl
  · rw [getElem!_neg s.data i h, Array.getElem?_eq_none (Nat.le_of_not_lt h)]; rfl
theorem nb_drop (l : List UInt8) (p k : Nat) : nb (l.drop p) k = nb l (p + k) := by unfold nb; simp [List.getD]
theorem decode_dcL (s : ByteArray) (p : Nat) : Utf8.decode s p = dcL (s.data.toList.drop p) := by
  rw [Lib.decode_at]
  unfold dcL
  rw [nb_drop, nb_drop, nb_drop, nb_drop]
  rw [list_get!, list_get!, list_get!, list_get!]
  have e : s.size = s.data.toList.length := by rw [Array.length_toList]; rfl
  rw [e, List.length_drop]
  rfl

end Go.Proofs.YthkbenhlhldglaaDoor
