/-
  What is proved: plain mathematics of messages and their bytes: what is read off bytes, how bytes are split, what a reader tells piece by piece. No program.
-/
import Derived.Test.YthkbenhlhldglaaDoorGr
namespace Go.Proofs.YthkbenhlhldglaaDoor

/-- A message. -/
structure Ms where
  op : Int
  id : Int
  body : List Int
def ByL (L : List Int) : Prop := ∀ x ∈ L, 0 ≤ x ∧ x ≤ 255
theorem ByL.drop {L : List Int} (h : ByL L) (n : Nat) : ByL (L.drop n) := fun x hx => h x (List.mem_of_mem_drop hx)
theorem ByL.take {L : List Int} (h : ByL L) (n : Nat) : ByL (L.take n) := fun x hx => h x (List.mem_of_mem_take hx)
theorem ByL.app {L M : List Int} (h : ByL L) (k : ByL M) : ByL (L ++ M) := fun x hx => by
  rcases List.mem_append.1 hx with h' | h'
  · exact h x h'
  · exact k x h'
theorem ByL.nil : ByL [] := fun x hx => by simp at hx
theorem ByL.at {L : List Int} (h : ByL L) (k : Nat) : 0 ≤ L.getD k 0 ∧ L.getD k 0 ≤ 255 := by
  rw [List.getD_eq_getElem?_getD]
  cases hk : L[k]? with
  | none => simp
  | some x => simpa using h x (List.mem_of_getElem? hk)

def eA : Int := 1
def eS : Int := 3
def eF : Int := 2

/-- A message that may be. -/
def okM (m : Ms) : Prop := (0 ≤ m.op ∧ m.op ≤ 255) ∧ (0 ≤ m.id ∧ m.id ≤ 4294967295) ∧ m.body.length ≤ 4096
def mayM (m : Ms) : Bool := (decide (0 ≤ m.op) && decide (m.op ≤ 255)) && ((decide (0 ≤ m.id) && decide (m.id ≤ 4294967295)) && decide (m.body.length ≤ 4096))
theorem mayM_iff (m : Ms) : mayM m = true ↔ okM m := by unfold mayM okM; simp
/-- Its bytes. -/
def encM (m : Ms) : List Int :=
  [((7 + m.body.length : Nat) : Int) / 256, ((7 + m.body.length : Nat) : Int) % 256, m.op, m.id / 16777216, m.id / 65536 % 256, m.id / 256 % 256, m.id % 256] ++ m.body
theorem encM_len (m : Ms) : (encM m).length = 7 + m.body.length := by unfold encM; simp; omega
theorem encM_by {m : Ms} (h : okM m) (hb : ByL m.body) : ByL (encM m) := by
  obtain ⟨h1, h2, h3⟩ := h
  intro x hx
  unfold encM at hx
  rw [List.mem_append] at hx
  rcases hx with hx | hx
  · simp at hx
    rcases hx with rfl | rfl | rfl | rfl | rfl | rfl | rfl <;> omega
  · exact hb x hx

def hdN (b : List Int) : Int := b.getD 0 0 * 256 + b.getD 1 0
def rdE (b : List Int) : Int := if b.length < 2 then eS else if hdN b < 7 ∨ 4103 < hdN b then eF else if (b.length : Int) < hdN b then eS else 0
def rdN (b : List Int) : Nat := if rdE b = 0 then (hdN b).toNat else 0
def rdM (b : List Int) : Ms := if rdE b = 0 then ⟨b.getD 2 0, b.getD 3 0 * 16777216 + b.getD 4 0 * 65536 + b.getD 5 0 * 256 + b.getD 6 0, (b.take (hdN b).toNat).drop 7⟩ else ⟨0, 0, []⟩
theorem eSF : eS ≠ eF ∧ eS ≠ 0 ∧ eF ≠ 0 := by unfold eS eF; decide
theorem rd_ok {b : List Int} : rdE b = 0 ↔ 2 ≤ b.length ∧ 7 ≤ hdN b ∧ hdN b ≤ 4103 ∧ hdN b ≤ b.length := by
  obtain ⟨h1, h2, h3⟩ := eSF
  unfold rdE
  constructor
  · intro h
    split at h
    · exact absurd h h2
    · split at h
      · exact absurd h h3
      · split at h
        · exact absurd h h2
        · omega
  · intro h
    rw [if_neg (by omega), if_neg (by omega), if_neg (by omega)]
theorem rd_form {b : List Int} : rdE b = eF ↔ 2 ≤ b.length ∧ (hdN b < 7 ∨ 4103 < hdN b) := by
  obtain ⟨h1, h2, h3⟩ := eSF
  unfold rdE
  constructor
  · intro h
    split at h
    · exact absurd h h1
    · split at h
      · omega
      · split at h
        · exact absurd h h1
        · exact absurd h.symm h3
  · intro h
    rw [if_neg (by omega), if_pos (by omega)]
theorem rd_three (b : List Int) : rdE b = 0 ∨ rdE b = eS ∨ rdE b = eF := by
  unfold rdE
  split
  · simp
  · split
    · simp
    · split <;> simp
theorem rdN_ok {b : List Int} (h : rdE b = 0) : 7 ≤ rdN b ∧ rdN b ≤ b.length ∧ rdN b ≤ 4103 ∧ (rdN b : Int) = hdN b := by
  have := rd_ok.1 h
  unfold rdN
  rw [if_pos h]
  omega
theorem getD_app {a b : List Int} {k : Nat} (h : k < a.length) : (a ++ b).getD k 0 = a.getD k 0 := by
  rw [List.getD_eq_getElem?_getD, List.getD_eq_getElem?_getD, List.getElem?_append_left h]
theorem hdN_app {a : List Int} (b : List Int) (h : 2 ≤ a.length) : hdN (a ++ b) = hdN a := by
  unfold hdN
  rw [getD_app (by omega), getD_app (by omega)]
theorem rdE_app {a : List Int} (b : List Int) (h : rdE a = 0) : rdE (a ++ b) = 0 ∧ rdN (a ++ b) = rdN a ∧ rdM (a ++ b) = rdM a := by
  have h1 := rd_ok.1 h
  have h2 := hdN_app b h1.1
  have h3 : rdE (a ++ b) = 0 := rd_ok.2 (by rw [h2, List.length_append]; omega)
  refine ⟨h3, ?_, ?_⟩
  · unfold rdN; rw [if_pos h, if_pos h3, h2]
  · unfold rdM
    rw [if_pos h, if_pos h3, h2, getD_app (by omega), getD_app (by omega), getD_app (by omega), getD_app (by omega), getD_app (by omega)]
    rw [List.take_append_of_le_length (by omega)]
theorem rdE_app_form {a : List Int} (b : List Int) (h : rdE a = eF) : rdE (a ++ b) = eF := by
  have h1 := rd_form.1 h
  refine rd_form.2 ?_
  rw [hdN_app b h1.1, List.length_append]
  omega

/-- All messages that bytes begin with, how many bytes these have, what is wrong behind. -/
def spl (b : List Int) : List Ms × Nat × Int :=
  if b = [] then ([], 0, 0)
  else if _hr : rdE b = 0 then (rdM b :: (spl (b.drop (rdN b))).1, rdN b + (spl (b.drop (rdN b))).2.1, (spl (b.drop (rdN b))).2.2)
  else ([], 0, rdE b)
termination_by b.length
decreasing_by
  all_goals
    have := rdN_ok ‹rdE b = 0›
    rw [List.length_drop]
    omega
theorem spl_nil : spl [] = ([], 0, 0) := by rw [spl]; simp
theorem spl_ok {b : List Int} (h : rdE b = 0) : spl b = (rdM b :: (spl (b.drop (rdN b))).1, rdN b + (spl (b.drop (rdN b))).2.1, (spl (b.drop (rdN b))).2.2) := by
  rw [spl]
  have hb : b ≠ [] := by
    rintro rfl
    have := rd_ok.1 h
    simp at this
  rw [if_neg hb, dif_pos h]
theorem spl_bad {b : List Int} (hb : b ≠ []) (h : rdE b ≠ 0) : spl b = ([], 0, rdE b) := by
  rw [spl, if_neg hb, dif_neg h]
theorem spl_three : ∀ (k : Nat) (b : List Int), b.length ≤ k → ((spl b).2.2 = 0 ∨ (spl b).2.2 = eS ∨ (spl b).2.2 = eF) ∧ (spl b).2.1 ≤ b.length ∧ ((spl b).2.2 = 0 → (spl b).2.1 = b.length) ∧ (spl b).1.length ≤ b.length ∧
    ((spl b).2.2 ≠ eF → (spl (b.drop (spl b).2.1)).1 = [])
  | k, b, hk => by
    by_cases hb : b = []
    · subst hb; rw [spl_nil]; simp [spl_nil]
    · by_cases h : rdE b = 0
      · have h1 := rdN_ok h
        have hpos : 0 < k := by omega
        obtain ⟨k', rfl⟩ : ∃ k', k = k' + 1 := ⟨k - 1, by omega⟩
        obtain ⟨i1, i2, i3, i4, i5⟩ := spl_three k' (b.drop (rdN b)) (by rw [List.length_drop]; omega)
        rw [spl_ok h]
        rw [List.length_drop] at i2 i3 i4
        refine ⟨i1, by dsimp only; omega, fun h' => by have := i3 h'; dsimp only; omega, by simp; omega, fun h' => ?_⟩
        have := i5 h'
        rw [List.drop_drop] at this
        exact this
      · rw [spl_bad hb h]
        refine ⟨rd_three b, Nat.zero_le _, fun h' => absurd h' h, Nat.zero_le _, fun h' => ?_⟩
        show (spl (b.drop 0)).1 = []
        rw [List.drop_zero, spl_bad hb h]
theorem spl_le (b : List Int) : (spl b).2.1 ≤ b.length := (spl_three b.length b (Nat.le_refl _)).2.1
theorem spl_e (b : List Int) : (spl b).2.2 = 0 ∨ (spl b).2.2 = eS ∨ (spl b).2.2 = eF := (spl_three b.length b (Nat.le_refl _)).1
theorem spl_all {b : List Int} (h : (spl b).2.2 = 0) : (spl b).2.1 = b.length := (spl_three b.length b (Nat.le_refl _)).2.2.1 h
theorem spl_few (b : List Int) : (spl b).1.length ≤ b.length := (spl_three b.length b (Nat.le_refl _)).2.2.2.1
theorem spl_rest {b : List Int} (h : (spl b).2.2 ≠ eF) : (spl (b.drop (spl b).2.1)).1 = [] := (spl_three b.length b (Nat.le_refl _)).2.2.2.2 h

theorem spl_app_form : ∀ (k : Nat) (a b : List Int), a.length ≤ k → (spl a).2.2 = eF → spl (a ++ b) = spl a
  | k, a, b, hk, h => by
    by_cases ha : a = []
    · subst ha; rw [spl_nil] at h; exact absurd h.symm eSF.2.2
    · by_cases hr : rdE a = 0
      · have h1 := rdN_ok hr
        obtain ⟨k', rfl⟩ : ∃ k', k = k' + 1 := ⟨k - 1, by omega⟩
        obtain ⟨j1, j2, j3⟩ := rdE_app b hr
        rw [spl_ok hr] at h
        have := spl_app_form k' (a.drop (rdN a)) b (by rw [List.length_drop]; omega) h
        rw [spl_ok hr, spl_ok j1, j2, j3, List.drop_append_of_le_length h1.2.1, this]
      · rw [spl_bad ha hr] at h ⊢
        have j := rdE_app_form b h
        rw [spl_bad (by simp [ha]) (by rw [j]; exact eSF.2.2), j]
        dsimp only at h
        rw [h]
theorem spl_app : ∀ (k : Nat) (a b : List Int), a.length ≤ k → (spl a).2.2 ≠ eF →
    spl (a ++ b) = ((spl a).1 ++ (spl (a.drop (spl a).2.1 ++ b)).1, (spl a).2.1 + (spl (a.drop (spl a).2.1 ++ b)).2.1, (spl (a.drop (spl a).2.1 ++ b)).2.2)
  | k, a, b, hk, h => by
    by_cases ha : a = []
    · subst ha; rw [spl_nil]; simp
    · by_cases hr : rdE a = 0
      · have h1 := rdN_ok hr
        obtain ⟨k', rfl⟩ : ∃ k', k = k' + 1 := ⟨k - 1, by omega⟩
        obtain ⟨j1, j2, j3⟩ := rdE_app b hr
        rw [spl_ok hr] at h
        have := spl_app k' (a.drop (rdN a)) b (by rw [List.length_drop]; omega) h
        rw [spl_ok hr, spl_ok j1, j2, j3, List.drop_append_of_le_length h1.2.1, this]
        dsimp only
        rw [List.drop_drop]
        simp only [List.cons_append, Nat.add_assoc]
      · rw [spl_bad ha hr]
        simp

/-- A reader: what is left, and whether it is broken. What it tells of bytes, and what it is then. -/
def putM (l : List Int) (br : Bool) (b : List Int) : List Ms := if br then [] else (spl (l ++ b)).1
def putBM (l : List Int) (br : Bool) (b : List Int) : Bool := br || decide ((spl (l ++ b)).2.2 = eF)
def putL (l : List Int) (br : Bool) (b : List Int) : List Int := if putBM l br b then [] else (l ++ b).drop (spl (l ++ b)).2.1
/-- Of bytes that were told it at once. -/
def brO (p : List Int) : Bool := decide ((spl p).2.2 = eF)
def lfO (p : List Int) : List Int := if brO p then [] else p.drop (spl p).2.1
theorem put_step (p q : List Int) : (spl p).1 ++ putM (lfO p) (brO p) q = (spl (p ++ q)).1 ∧ putBM (lfO p) (brO p) q = brO (p ++ q) ∧ putL (lfO p) (brO p) q = lfO (p ++ q) := by
  by_cases h : (spl p).2.2 = eF
  · have h1 : brO p = true := decide_eq_true h
    have h2 := spl_app_form p.length p q (Nat.le_refl _) h
    have h3 : brO (p ++ q) = true := by unfold brO; rw [h2]; exact decide_eq_true h
    have h4 : putBM (lfO p) (brO p) q = true := by unfold putBM; rw [h1]; rfl
    refine ⟨?_, by rw [h4, h3], ?_⟩
    · unfold putM; rw [h1, h2]; simp
    · unfold putL; rw [h4]; unfold lfO; rw [h3]; rfl
  · have h1 : brO p = false := decide_eq_false h
    have h2 := spl_app p.length p q (Nat.le_refl _) h
    have h5 : lfO p = p.drop (spl p).2.1 := by unfold lfO; rw [h1]; rfl
    have h4 : putBM (lfO p) (brO p) q = brO (p ++ q) := by unfold putBM brO; rw [h5, h2]; simp [h]
    refine ⟨?_, h4, ?_⟩
    · unfold putM; rw [h1, h5, h2]; simp
    · unfold putL
      rw [h4]
      unfold lfO
      have h6 := spl_le p
      rw [h1, h2]
      simp only [if_neg Bool.false_ne_true]
      rw [← List.drop_append_of_le_length h6, List.drop_drop]
theorem put_end (p : List Int) : putM (lfO p) (brO p) [] = [] := by
  unfold putM
  split
  · rfl
  · rename_i h
    have h1 : brO p = false := by simpa using h
    have h2 : (spl p).2.2 ≠ eF := of_decide_eq_false h1
    unfold lfO
    rw [h1]
    simp only [if_neg Bool.false_ne_true, List.append_nil]
    exact spl_rest h2

/-- The bytes of a message that may be begin with it. -/
theorem rd_enc {m : Ms} (h : okM m) (t : List Int) : rdE (encM m ++ t) = 0 ∧ rdN (encM m ++ t) = (encM m).length ∧ rdM (encM m ++ t) = m := by
  obtain ⟨h1, h2, h3⟩ := h
  have hh : hdN (encM m ++ t) = ((7 + m.body.length : Nat) : Int) := by
    unfold hdN encM
    simp only [List.cons_append, List.nil_append, List.getD_cons_zero, List.getD_cons_succ]
    omega
  have hl := encM_len m
  have he : rdE (encM m ++ t) = 0 := rd_ok.2 (by rw [hh, List.length_append, hl]; omega)
  refine ⟨he, ?_, ?_⟩
  · unfold rdN; rw [if_pos he, hh, hl]; omega
  · unfold rdM
    rw [if_pos he, hh]
    have e1 : (((7 + m.body.length : Nat) : Int)).toNat = (encM m).length := by rw [hl]; omega
    rw [e1, List.take_left]
    obtain ⟨op, id, body⟩ := m
    dsimp only at h1 h2 h3
    unfold encM
    simp only [List.cons_append, List.nil_append, List.getD_cons_zero, List.getD_cons_succ, List.drop_succ_cons, List.drop_zero]
    congr 1
    omega
theorem encM_ne (m : Ms) (t : List Int) : encM m ++ t ≠ [] := by unfold encM; simp
/-- Bytes that begin a message, and are not all of it, are too short. -/
theorem rd_cut {m : Ms} (h : okM m) {c : Nat} (hc : c < (encM m).length) : rdE ((encM m).take c) = eS := by
  obtain ⟨h1, h2, h3⟩ := h
  have hl := encM_len m
  have hlen : ((encM m).take c).length = c := by rw [List.length_take]; omega
  unfold rdE
  rw [hlen]
  split
  · rfl
  · have hh : hdN ((encM m).take c) = ((7 + m.body.length : Nat) : Int) := by
      obtain ⟨c', rfl⟩ : ∃ c', c = c' + 2 := ⟨c - 2, by omega⟩
      unfold hdN encM
      simp only [List.cons_append, List.nil_append, List.take_succ_cons, List.getD_cons_zero, List.getD_cons_succ]
      omega
    rw [hh, if_neg (by omega), if_pos (by omega)]

/-- The bytes of messages. -/
def encsM : List Ms → List Int
  | [] => []
  | m :: l => encM m ++ encsM l
theorem encsM_app : ∀ a b : List Ms, encsM (a ++ b) = encsM a ++ encsM b
  | [], b => rfl
  | m :: l, b => by show encM m ++ encsM (l ++ b) = (encM m ++ encsM l) ++ encsM b; rw [encsM_app l b, List.append_assoc]
/-- How many of them are whole in the first c bytes, and how many bytes these have. -/
def whN : List Ms → Nat → Nat
  | [], _ => 0
  | m :: l, c => if (encM m).length ≤ c then 1 + whN l (c - (encM m).length) else 0
def whE : List Ms → Nat → Nat
  | [], _ => 0
  | m :: l, c => if (encM m).length ≤ c then (encM m).length + whE l (c - (encM m).length) else 0
theorem whE_le : ∀ (l : List Ms) (c : Nat), whE l c ≤ c
  | [], _ => Nat.zero_le _
  | m :: l, c => by
    unfold whE
    split
    · have := whE_le l (c - (encM m).length); omega
    · exact Nat.zero_le _
theorem spl_cut : ∀ (l : List Ms) (c : Nat), (∀ m ∈ l, okM m) → c ≤ (encsM l).length →
    (spl ((encsM l).take c)).1.length = whN l c ∧ (spl ((encsM l).take c)).2.1 = whE l c ∧ (spl ((encsM l).take c)).2.2 = if whE l c = c then 0 else eS
  | [], c, _, hc => by
    have : c = 0 := by simpa [encsM] using hc
    subst this
    simp [encsM, spl_nil, whN, whE]
  | m :: l, c, h, hc => by
    have hm := h m (by simp)
    have hl := encM_len m
    unfold whN whE
    by_cases hle : (encM m).length ≤ c
    · obtain ⟨d, rfl⟩ : ∃ d, c = (encM m).length + d := ⟨c - (encM m).length, by omega⟩
      have e1 : (encsM (m :: l)).take ((encM m).length + d) = encM m ++ (encsM l).take d := by
        show (encM m ++ encsM l).take _ = _
        rw [List.take_length_add_append]
      obtain ⟨i1, i2, i3⟩ := spl_cut l d (fun x hx => h x (by simp [hx])) (by
        have : (encsM (m :: l)).length = (encM m).length + (encsM l).length := by show (encM m ++ encsM l).length = _; simp
        omega)
      obtain ⟨j1, j2, j3⟩ := rd_enc hm ((encsM l).take d)
      rw [e1, spl_ok j1, j2, List.drop_left, if_pos hle, if_pos hle, Nat.add_sub_cancel_left]
      refine ⟨by simp [i1]; omega, by dsimp only; rw [i2], ?_⟩
      dsimp only
      rw [i3]
      by_cases hw : whE l d = d
      · rw [if_pos hw, if_pos (by omega)]
      · rw [if_neg hw, if_neg (by omega)]
    · have e1 : (encsM (m :: l)).take c = (encM m).take c := by
        show (encM m ++ encsM l).take c = _
        rw [List.take_append_of_le_length (by omega)]
      rw [e1, if_neg hle, if_neg hle]
      by_cases h0 : c = 0
      · subst h0; simp [spl_nil]
      · have hne : (encM m).take c ≠ [] := by
          intro h'
          have := congrArg List.length h'
          rw [List.length_take, List.length_nil] at this
          omega
        have := rd_cut hm (c := c) (by omega)
        rw [spl_bad hne (by rw [this]; exact eSF.2.1), this]
        rw [if_neg (by omega)]
        exact ⟨rfl, rfl, rfl⟩

end Go.Proofs.YthkbenhlhldglaaDoor
