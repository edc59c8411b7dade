/-
  What is proved: plain mathematics of messages and their bytes: what is read off bytes, how bytes are split, what a reader tells piece by piece. No program. slices that read as messages; what 'append' does to them. No conditions but bounds on lengths. Around and Few of the document's packages. No conditions but bounds. Around, Few, Good, May of the document's packages; May of package frame. No conditions but bounds. what number and value of package frame hand back. No conditions but bounds. what Write of package frame, and the document's, hand back; the document's example. No conditions but bounds. what Read of package frame, and the document's, hand back. No conditions but bounds. words for what Split hands back. No program. what bytes.Clone hands back of bytes. No conditions but a bound. what Same of package frame, and the document's, hand back of two messages that are the same; SameAll of two rows of the same messages. No conditions but bounds.
-/
import Derived.Test.YthkbenhlhldglaaDoorMa
import Derived.Test.YthkbenhlhldglaaDoorOba
import Derived.Test.YthkbenhlhldglaaDoorShc
import Derived.Laws.MakeOwn
namespace Go.Proofs.YthkbenhlhldglaaDoor

/-- A message. -/
structure Ms where
  op : Int
  id : Int
  body : List Int
def ByL (L : List Int) : Prop := ∀ x ∈ L, 0 ≤ x ∧ x ≤ 255
theorem ByL.drop {L : List Int} (h : ByL L) (n : Nat) : ByL (L.drop n) := fun x hx => h x (List.mem_of_mem_drop hx)
theorem ByL.take {L : List Int} (h : ByL L) (n : Nat) : ByL (L.take n) := fun x hx => h x (List.mem_of_mem_take hx)
theorem ByL.app {L M : List Int} (h : ByL L) (k : ByL M) : ByL (L ++ M) := fun x hx => by
  rcases List.mem_append.1 hx with h' | h'
  · exact h x h'
  · exact k x h'
theorem ByL.nil : ByL [] := fun x hx => by simp at hx
theorem ByL.at {L : List Int} (h : ByL L) (k : Nat) : 0 ≤ L.getD k 0 ∧ L.getD k 0 ≤ 255 := by
  rw [List.getD_eq_getElem?_getD]
  cases hk : L[k]? with
  | none => simp
  | some x => simpa using h x (List.mem_of_getElem? hk)

def eA : Int := 1
def eS : Int := 3
def eF : Int := 2

/-- A message that may be. -/
def okM (m : Ms) : Prop := (0 ≤ m.op ∧ m.op ≤ 255) ∧ (0 ≤ m.id ∧ m.id ≤ 4294967295) ∧ m.body.length ≤ 4096
def mayM (m : Ms) : Bool := (decide (0 ≤ m.op) && decide (m.op ≤ 255)) && ((decide (0 ≤ m.id) && decide (m.id ≤ 4294967295)) && decide (m.body.length ≤ 4096))
theorem mayM_iff (m : Ms) : mayM m = true ↔ okM m := by unfold mayM okM; simp
/-- Its bytes. -/
def encM (m : Ms) : List Int :=
  [((7 + m.body.length : Nat) : Int) / 256, ((7 + m.body.length : Nat) : Int) % 256, m.op, m.id / 16777216, m.id / 65536 % 256, m.id / 256 % 256, m.id % 256] ++ m.body
theorem encM_len (m : Ms) : (encM m).length = 7 + m.body.length := by unfold encM; simp; omega
theorem encM_by {m : Ms} (h : okM m) (hb : ByL m.body) : ByL (encM m) := by
  obtain ⟨h1, h2, h3⟩ := h
  intro x hx
  unfold encM at hx
  rw [List.mem_append] at hx
  rcases hx with hx | hx
  · simp at hx
    rcases hx with rfl | rfl | rfl | rfl | rfl | rfl | rfl <;> omega
  · exact hb x hx

def hdN (b : List Int) : Int := b.getD 0 0 * 256 + b.getD 1 0
def rdE (b : List Int) : Int := if b.length < 2 then eS else if hdN b < 7 ∨ 4103 < hdN b then eF else if (b.length : Int) < hdN b then eS else 0
def rdN (b : List Int) : Nat := if rdE b = 0 then (hdN b).toNat else 0
def rdM (b : List Int) : Ms := if rdE b = 0 then ⟨b.getD 2 0, b.getD 3 0 * 16777216 + b.getD 4 0 * 65536 + b.getD 5 0 * 256 + b.getD 6 0, (b.take (hdN b).toNat).drop 7⟩ else ⟨0, 0, []⟩
theorem eSF : eS ≠ eF ∧ eS ≠ 0 ∧ eF ≠ 0 := by unfold eS eF; decide
theorem rd_ok {b : List Int} : rdE b = 0 ↔ 2 ≤ b.length ∧ 7 ≤ hdN b ∧ hdN b ≤ 4103 ∧ hdN b ≤ b.length := by
  obtain ⟨h1, h2, h3⟩ := eSF
  unfold rdE
  constructor
  · intro h
    split at h
    · exact absurd h h2
    · split at h
      · exact absurd h h3
      · split at h
        · exact absurd h h2
        · omega
  · intro h
    rw [if_neg (by omega), if_neg (by omega), if_neg (by omega)]
theorem rd_form {b : List Int} : rdE b = eF ↔ 2 ≤ b.length ∧ (hdN b < 7 ∨ 4103 < hdN b) := by
  obtain ⟨h1, h2, h3⟩ := eSF
  unfold rdE
  constructor
  · intro h
    split at h
    · exact absurd h h1
    · split at h
      · omega
      · split at h
        · exact absurd h h1
        · exact absurd h.symm h3
  · intro h
    rw [if_neg (by omega), if_pos (by omega)]
theorem rd_three (b : List Int) : rdE b = 0 ∨ rdE b = eS ∨ rdE b = eF := by
  unfold rdE
  split
  · simp
  · split
    · simp
    · split <;> simp
theorem rdN_ok {b : List Int} (h : rdE b = 0) : 7 ≤ rdN b ∧ rdN b ≤ b.length ∧ rdN b ≤ 4103 ∧ (rdN b : Int) = hdN b := by
  have := rd_ok.1 h
  unfold rdN
  rw [if_pos h]
  omega
theorem getD_app {a b : List Int} {k : Nat} (h : k < a.length) : (a ++ b).getD k 0 = a.getD k 0 := by
  rw [List.getD_eq_getElem?_getD, List.getD_eq_getElem?_getD, List.getElem?_append_left h]
theorem hdN_app {a : List Int} (b : List Int) (h : 2 ≤ a.length) : hdN (a ++ b) = hdN a := by
  unfold hdN
  rw [getD_app (by omega), getD_app (by omega)]
theorem rdE_app {a : List Int} (b : List Int) (h : rdE a = 0) : rdE (a ++ b) = 0 ∧ rdN (a ++ b) = rdN a ∧ rdM (a ++ b) = rdM a := by
  have h1 := rd_ok.1 h
  have h2 := hdN_app b h1.1
  have h3 : rdE (a ++ b) = 0 := rd_ok.2 (by rw [h2, List.length_append]; omega)
  refine ⟨h3, ?_, ?_⟩
  · unfold rdN; rw [if_pos h, if_pos h3, h2]
  · unfold rdM
    rw [if_pos h, if_pos h3, h2, getD_app (by omega), getD_app (by omega), getD_app (by omega), getD_app (by omega), getD_app (by omega)]
    rw [List.take_append_of_le_length (by omega)]
theorem rdE_app_form {a : List Int} (b : List Int) (h : rdE a = eF) : rdE (a ++ b) = eF := by
  have h1 := rd_form.1 h
  refine rd_form.2 ?_
  rw [hdN_app b h1.1, List.length_append]
  omega

/-- All messages that bytes begin with, how many bytes these have, what is wrong behind. -/
def spl (b : List Int) : List Ms × Nat × Int :=
  if b = [] then ([], 0, 0)
  else if _hr : rdE b = 0 then (rdM b :: (spl (b.drop (rdN b))).1, rdN b + (spl (b.drop (rdN b))).2.1, (spl (b.drop (rdN b))).2.2)
  else ([], 0, rdE b)
termination_by b.length
decreasing_by
  all_goals
    have := rdN_ok ‹rdE b = 0›
    rw [List.length_drop]
    omega
theorem spl_nil : spl [] = ([], 0, 0) := by rw [spl]; simp
theorem spl_ok {b : List Int} (h : rdE b = 0) : spl b = (rdM b :: (spl (b.drop (rdN b))).1, rdN b + (spl (b.drop (rdN b))).2.1, (spl (b.drop (rdN b))).2.2) := by
  rw [spl]
  have hb : b ≠ [] := by
    rintro rfl
    have := rd_ok.1 h
    simp at this
  rw [if_neg hb, dif_pos h]
theorem spl_bad {b : List Int} (hb : b ≠ []) (h : rdE b ≠ 0) : spl b = ([], 0, rdE b) := by
  rw [spl, if_neg hb, dif_neg h]
theorem spl_three : ∀ (k : Nat) (b : List Int), b.length ≤ k → ((spl b).2.2 = 0 ∨ (spl b).2.2 = eS ∨ (spl b).2.2 = eF) ∧ (spl b).2.1 ≤ b.length ∧ ((spl b).2.2 = 0 → (spl b).2.1 = b.length) ∧ (spl b).1.length ≤ b.length ∧
    ((spl b).2.2 ≠ eF → (spl (b.drop (spl b).2.1)).1 = [])
  | k, b, hk => by
    by_cases hb : b = []
    · subst hb; rw [spl_nil]; simp [spl_nil]
    · by_cases h : rdE b = 0
      · have h1 := rdN_ok h
        have hpos : 0 < k := by omega
        obtain ⟨k', rfl⟩ : ∃ k', k = k' + 1 := ⟨k - 1, by omega⟩
        obtain ⟨i1, i2, i3, i4, i5⟩ := spl_three k' (b.drop (rdN b)) (by rw [List.length_drop]; omega)
        rw [spl_ok h]
        rw [List.length_drop] at i2 i3 i4
        refine ⟨i1, by dsimp only; omega, fun h' => by have := i3 h'; dsimp only; omega, by simp; omega, fun h' => ?_⟩
        have := i5 h'
        rw [List.drop_drop] at this
        exact this
      · rw [spl_bad hb h]
        refine ⟨rd_three b, Nat.zero_le _, fun h' => absurd h' h, Nat.zero_le _, fun h' => ?_⟩
        show (spl (b.drop 0)).1 = []
        rw [List.drop_zero, spl_bad hb h]
theorem spl_le (b : List Int) : (spl b).2.1 ≤ b.length := (spl_three b.length b (Nat.le_refl _)).2.1
theorem spl_e (b : List Int) : (spl b).2.2 = 0 ∨ (spl b).2.2 = eS ∨ (spl b).2.2 = eF := (spl_three b.length b (Nat.le_refl _)).1
theorem spl_all {b : List Int} (h : (spl b).2.2 = 0) : (spl b).2.1 = b.length := (spl_three b.length b (Nat.le_refl _)).2.2.1 h
theorem spl_few (b : List Int) : (spl b).1.length ≤ b.length := (spl_three b.length b (Nat.le_refl _)).2.2.2.1
theorem spl_rest {b : List Int} (h : (spl b).2.2 ≠ eF) : (spl (b.drop (spl b).2.1)).1 = [] := (spl_three b.length b (Nat.le_refl _)).2.2.2.2 h

theorem spl_app_form : ∀ (k : Nat) (a b : List Int), a.length ≤ k → (spl a).2.2 = eF → spl (a ++ b) = spl a
  | k, a, b, hk, h => by
    by_cases ha : a = []
    · subst ha; rw [spl_nil] at h; exact absurd h.symm eSF.2.2
    · by_cases hr : rdE a = 0
      · have h1 := rdN_ok hr
        obtain ⟨k', rfl⟩ : ∃ k', k = k' + 1 := ⟨k - 1, by omega⟩
        obtain ⟨j1, j2, j3⟩ := rdE_app b hr
        rw [spl_ok hr] at h
        have := spl_app_form k' (a.drop (rdN a)) b (by rw [List.length_drop]; omega) h
        rw [spl_ok hr, spl_ok j1, j2, j3, List.drop_append_of_le_length h1.2.1, this]
      · rw [spl_bad ha hr] at h ⊢
        have j := rdE_app_form b h
        rw [spl_bad (by simp [ha]) (by rw [j]; exact eSF.2.2), j]
        dsimp only at h
        rw [h]
theorem spl_app : ∀ (k : Nat) (a b : List Int), a.length ≤ k → (spl a).2.2 ≠ eF →
    spl (a ++ b) = ((spl a).1 ++ (spl (a.drop (spl a).2.1 ++ b)).1, (spl a).2.1 + (spl (a.drop (spl a).2.1 ++ b)).2.1, (spl (a.drop (spl a).2.1 ++ b)).2.2)
  | k, a, b, hk, h => by
    by_cases ha : a = []
    · subst ha; rw [spl_nil]; simp
    · by_cases hr : rdE a = 0
      · have h1 := rdN_ok hr
        obtain ⟨k', rfl⟩ : ∃ k', k = k' + 1 := ⟨k - 1, by omega⟩
        obtain ⟨j1, j2, j3⟩ := rdE_app b hr
        rw [spl_ok hr] at h
        have := spl_app k' (a.drop (rdN a)) b (by rw [List.length_drop]; omega) h
        rw [spl_ok hr, spl_ok j1, j2, j3, List.drop_append_of_le_length h1.2.1, this]
        dsimp only
        rw [List.drop_drop]
        simp only [List.cons_append, Nat.add_assoc]
      · rw [spl_bad ha hr]
        simp

/-- A reader: what is left, and whether it is broken. What it tells of bytes, and what it is then. -/
def putM (l : List Int) (br : Bool) (b : List Int) : List Ms := if br then [] else (spl (l ++ b)).1
def putBM (l : List Int) (br : Bool) (b : List Int) : Bool := br || decide ((spl (l ++ b)).2.2 = eF)
def putL (l : List Int) (br : Bool) (b : List Int) : List Int := if putBM l br b then [] else (l ++ b).drop (spl (l ++ b)).2.1
/-- Of bytes that were told it at once. -/
def brO (p : List Int) : Bool := decide ((spl p).2.2 = eF)
def lfO (p : List Int) : List Int := if brO p then [] else p.drop (spl p).2.1
theorem put_step (p q : List Int) : (spl p).1 ++ putM (lfO p) (brO p) q = (spl (p ++ q)).1 ∧ putBM (lfO p) (brO p) q = brO (p ++ q) ∧ putL (lfO p) (brO p) q = lfO (p ++ q) := by
  by_cases h : (spl p).2.2 = eF
  · have h1 : brO p = true := decide_eq_true h
    have h2 := spl_app_form p.length p q (Nat.le_refl _) h
    have h3 : brO (p ++ q) = true := by unfold brO; rw [h2]; exact decide_eq_true h
    have h4 : putBM (lfO p) (brO p) q = true := by unfold putBM; rw [h1]; rfl
    refine ⟨?_, by rw [h4, h3], ?_⟩
    · unfold putM; rw [h1, h2]; simp
    · unfold putL; rw [h4]; unfold lfO; rw [h3]; rfl
  · have h1 : brO p = false := decide_eq_false h
    have h2 := spl_app p.length p q (Nat.le_refl _) h
    have h5 : lfO p = p.drop (spl p).2.1 := by unfold lfO; rw [h1]; rfl
    have h4 : putBM (lfO p) (brO p) q = brO (p ++ q) := by unfold putBM brO; rw [h5, h2]; simp [h]
    refine ⟨?_, h4, ?_⟩
    · unfold putM; rw [h1, h5, h2]; simp
    · unfold putL
      rw [h4]
      unfold lfO
      have h6 := spl_le p
      rw [h1, h2]
      simp only [if_neg Bool.false_ne_true]
      rw [← List.drop_append_of_le_length h6, List.drop_drop]
theorem put_end (p : List Int) : putM (lfO p) (brO p) [] = [] := by
  unfold putM
  split
  · rfl
  · rename_i h
    have h1 : brO p = false := by simpa using h
    have h2 : (spl p).2.2 ≠ eF := of_decide_eq_false h1
    unfold lfO
    rw [h1]
    simp only [if_neg Bool.false_ne_true, List.append_nil]
    exact spl_rest h2

/-- The bytes of a message that may be begin with it. -/
theorem rd_enc {m : Ms} (h : okM m) (t : List Int) : rdE (encM m ++ t) = 0 ∧ rdN (encM m ++ t) = (encM m).length ∧ rdM (encM m ++ t) = m := by
  obtain ⟨h1, h2, h3⟩ := h
  have hh : hdN (encM m ++ t) = ((7 + m.body.length : Nat) : Int) := by
    unfold hdN encM
    simp only [List.cons_append, List.nil_append, List.getD_cons_zero, List.getD_cons_succ]
    omega
  have hl := encM_len m
  have he : rdE (encM m ++ t) = 0 := rd_ok.2 (by rw [hh, List.length_append, hl]; omega)
  refine ⟨he, ?_, ?_⟩
  · unfold rdN; rw [if_pos he, hh, hl]; omega
  · unfold rdM
    rw [if_pos he, hh]
    have e1 : (((7 + m.body.length : Nat) : Int)).toNat = (encM m).length := by rw [hl]; omega
    rw [e1, List.take_left]
    obtain ⟨op, id, body⟩ := m
    dsimp only at h1 h2 h3
    unfold encM
    simp only [List.cons_append, List.nil_append, List.getD_cons_zero, List.getD_cons_succ, List.drop_succ_cons, List.drop_zero]
    congr 1
    omega
theorem encM_ne (m : Ms) (t : List Int) : encM m ++ t ≠ [] := by unfold encM; simp
/-- Bytes that begin a message, and are not all of it, are too short. -/
theorem rd_cut {m : Ms} (h : okM m) {c : Nat} (hc : c < (encM m).length) : rdE ((encM m).take c) = eS := by
  obtain ⟨h1, h2, h3⟩ := h
  have hl := encM_len m
  have hlen : ((encM m).take c).length = c := by rw [List.length_take]; omega
  unfold rdE
  rw [hlen]
  split
  · rfl
  · have hh : hdN ((encM m).take c) = ((7 + m.body.length : Nat) : Int) := by
      obtain ⟨c', rfl⟩ : ∃ c', c = c' + 2 := ⟨c - 2, by omega⟩
      unfold hdN encM
      simp only [List.cons_append, List.nil_append, List.take_succ_cons, List.getD_cons_zero, List.getD_cons_succ]
      omega
    rw [hh, if_neg (by omega), if_pos (by omega)]

/-- The bytes of messages. -/
def encsM : List Ms → List Int
  | [] => []
  | m :: l => encM m ++ encsM l
theorem encsM_app : ∀ a b : List Ms, encsM (a ++ b) = encsM a ++ encsM b
  | [], b => rfl
  | m :: l, b => by show encM m ++ encsM (l ++ b) = (encM m ++ encsM l) ++ encsM b; rw [encsM_app l b, List.append_assoc]
/-- How many of them are whole in the first c bytes, and how many bytes these have. -/
def whN : List Ms → Nat → Nat
  | [], _ => 0
  | m :: l, c => if (encM m).length ≤ c then 1 + whN l (c - (encM m).length) else 0
def whE : List Ms → Nat → Nat
  | [], _ => 0
  | m :: l, c => if (encM m).length ≤ c then (encM m).length + whE l (c - (encM m).length) else 0
theorem whE_le : ∀ (l : List Ms) (c : Nat), whE l c ≤ c
  | [], _ => Nat.zero_le _
  | m :: l, c => by
    unfold whE
    split
    · have := whE_le l (c - (encM m).length); omega
    · exact Nat.zero_le _
theorem spl_cut : ∀ (l : List Ms) (c : Nat), (∀ m ∈ l, okM m) → c ≤ (encsM l).length →
    (spl ((encsM l).take c)).1.length = whN l c ∧ (spl ((encsM l).take c)).2.1 = whE l c ∧ (spl ((encsM l).take c)).2.2 = if whE l c = c then 0 else eS
  | [], c, _, hc => by
    have : c = 0 := by simpa [encsM] using hc
    subst this
    simp [encsM, spl_nil, whN, whE]
  | m :: l, c, h, hc => by
    have hm := h m (by simp)
    have hl := encM_len m
    unfold whN whE
    by_cases hle : (encM m).length ≤ c
    · obtain ⟨d, rfl⟩ : ∃ d, c = (encM m).length + d := ⟨c - (encM m).length, by omega⟩
      have e1 : (encsM (m :: l)).take ((encM m).length + d) = encM m ++ (encsM l).take d := by
        show (encM m ++ encsM l).take _ = _
        rw [List.take_length_add_append]
      obtain ⟨i1, i2, i3⟩ := spl_cut l d (fun x hx => h x (by simp [hx])) (by
        have : (encsM (m :: l)).length = (encM m).length + (encsM l).length := by show (encM m ++ encsM l).length = _; simp
        omega)
      obtain ⟨j1, j2, j3⟩ := rd_enc hm ((encsM l).take d)
      rw [e1, spl_ok j1, j2, List.drop_left, if_pos hle, if_pos hle, Nat.add_sub_cancel_left]
      refine ⟨by simp [i1]; omega, by dsimp only; rw [i2], ?_⟩
      dsimp only
      rw [i3]
      by_cases hw : whE l d = d
      · rw [if_pos hw, if_pos (by omega)]
      · rw [if_neg hw, if_neg (by omega)]
    · have e1 : (encsM (m :: l)).take c = (encM m).take c := by
        show (encM m ++ encsM l).take c = _
        rw [List.take_append_of_le_length (by omega)]
      rw [e1, if_neg hle, if_neg hle]
      by_cases h0 : c = 0
      · subst h0; simp [spl_nil]
      · have hne : (encM m).take c ≠ [] := by
          intro h'
          have := congrArg List.length h'
          rw [List.length_take, List.length_nil] at this
          omega
        have := rd_cut hm (c := c) (by omega)
        rw [spl_bad hne (by rw [this]; exact eSF.2.1), this]
        rw [if_neg (by omega)]
        exact ⟨rfl, rfl, rfl⟩

end Go.Proofs.YthkbenhlhldglaaDoor
namespace Go.Proofs.YthkbenhlhldglaaDoor
open Go.ChangeShapes Go.WideShapes Go.ChangeAt Go.RowKit Go.Joins Go.Sort Go.Deep
theorem infoMs : (Tryd.prog.info? 24).map (fun i => (i.zero, i.size, i.bytes)) = some (some (.agg #[.int .i64 0, .int .i64 0, .slice none 0 0]), 3, 40) := by kernel_rfl
theorem cellsMs : Tryd.prog.cellsOf 24 = 3 := by kernel_rfl
/-- Messages as they lie. -/
def c3 (p : Ms × Value) : List Value := [.int .i64 p.1.op, .int .i64 p.1.id, p.2]
def cM : List (Ms × Value) → List Value
  | [] => []
  | r :: l => c3 r ++ cM l
theorem cM_len : ∀ L : List (Ms × Value), (cM L).length = L.length * 3
  | [] => rfl
  | r :: l => by unfold cM; rw [List.length_append, cM_len l]; simp [c3]; omega
theorem cM_app : ∀ L M : List (Ms × Value), cM (L ++ M) = cM L ++ cM M
  | [], M => rfl
  | r :: l, M => by show c3 r ++ cM (l ++ M) = (c3 r ++ cM l) ++ cM M; rw [cM_app l M, List.append_assoc]
theorem cM_get : ∀ (L : List (Ms × Value)) (k : Nat) (r : Ms × Value) (j : Nat), L[k]? = some r → j < 3 → (cM L)[k * 3 + j]? = (c3 r)[j]?
  | [], k, r, j, h, _ => by simp at h
  | r' :: l, 0, r, j, h, hj => by
    simp at h; subst h
    unfold cM
    rw [List.getElem?_append_left (by simp [c3]; omega)]; simp
  | r' :: l, k + 1, r, j, h, hj => by
    unfold cM
    rw [List.getElem?_append_right (by simp [c3]; omega)]
    rw [show (k + 1) * 3 + j - (c3 r').length = k * 3 + j from by simp [c3]; omega]
    exact cM_get l k r j (by simpa using h) hj
theorem cM_one {w : World} : ∀ (L : List (Ms × Value)), (∀ p ∈ L, Sv w p.2 p.1.body) → ∀ u ∈ cM L, u.oneCell' = true
  | [], _, u, h => by simp [cM] at h
  | r :: l, hs, u, h => by
    unfold cM at h
    rw [List.mem_append] at h
    rcases h with h | h
    · simp [c3] at h
      rcases h with h | h | h
      · subst h; rfl
      · subst h; rfl
      · obtain ⟨A, c, h1, _⟩ := hs r (by simp)
        rw [h, h1]; rfl
    · exact cM_one l (fun p hp => hs p (by simp [hp])) u h
def RowM (w : World) (b off : Nat) (L : List (Ms × Value)) : Prop := ∀ k r, L[k]? = some r → w.cell? ⟨b, off + k * 3, none⟩ = some (.int .i64 r.1.op) ∧ w.cell? ⟨b, off + k * 3 + 1, none⟩ = some (.int .i64 r.1.id) ∧ w.cell? ⟨b, off + k * 3 + 2, none⟩ = some r.2
/-- A slice of that address reads as these messages. -/
def Mv (w : World) (A : Option Addr) (L : List (Ms × Value)) : Prop := (L = [] ∨ ∃ b off, A = some ⟨b, off, none⟩ ∧ RowM w b off L) ∧ ∀ p ∈ L, Sv w p.2 p.1.body
theorem RowM.bl {w w' : World} {b off : Nat} {L : List (Ms × Value)} (h : RowM w b off L) (g : Bl w w') : RowM w' b off L := fun k r hk => by
  obtain ⟨h1, h2, h3⟩ := h k r hk
  exact ⟨g.keep h1, g.keep h2, g.keep h3⟩
theorem Mv.bl {w w' : World} {A : Option Addr} {L : List (Ms × Value)} (h : Mv w A L) (g : Bl w w') : Mv w' A L := by
  refine ⟨?_, fun p hp => (h.2 p hp).bl g⟩
  rcases h.1 with h | ⟨b, off, h1, h2⟩
  · exact .inl h
  · exact .inr ⟨b, off, h1, h2.bl g⟩
theorem Mv.by {w w' : World} {A : Option Addr} {L : List (Ms × Value)} (h : Mv w A L) {r : Nat} (g : w.grownBy w' (some r)) (hA : ∀ k, A.map (·.block) = some k → k ≠ r) (hb : ∀ p ∈ L, Far p.1.body p.2 (some r)) : Mv w' A L := by
  refine ⟨?_, fun p hp => (h.2 p hp).by g (hb p hp)⟩
  rcases h.1 with h | ⟨b, off, rfl, h2⟩
  · exact .inl h
  · have hne : some b ≠ some r := fun e => hA b rfl (Option.some.inj e)
    refine .inr ⟨b, off, rfl, fun k p hk => ?_⟩
    obtain ⟨q1, q2, q3⟩ := h2 k p hk
    exact ⟨g.cell q1 hne, g.cell q2 hne, g.cell q3 hne⟩
theorem Mv.at {w : World} {A : Option Addr} {L : List (Ms × Value)} (h : Mv w A L) {k : Nat} (hk : k < L.length) : ∃ b off p, A = some ⟨b, off, none⟩ ∧ L[k]? = some p ∧ w.cell? ⟨b, off + k * 3, none⟩ = some (.int .i64 p.1.op) ∧ w.cell? ⟨b, off + k * 3 + 1, none⟩ = some (.int .i64 p.1.id) ∧ w.cell? ⟨b, off + k * 3 + 2, none⟩ = some p.2 ∧ Sv w p.2 p.1.body := by
  obtain ⟨p, hp⟩ := list_at hk
  rcases h.1 with h' | ⟨b, off, rfl, hr⟩
  · subst h'; simp at hk
  · obtain ⟨h1, h2, h3⟩ := hr k p hp
    exact ⟨b, off, p, rfl, hp, h1, h2, h3, h.2 p (List.mem_of_getElem? hp)⟩
theorem RowM.news {w : World} {b off : Nat} {L : List (Ms × Value)} (h : RowM w b off L) : ∀ (j : Nat) (u : Value), (cM L)[j]? = some u → w.cell? (Addr.add ⟨b, off, none⟩ j) = some u := by
  intro j u hj
  rw [add_lit']
  have hl : j < L.length * 3 := by
    rw [← cM_len]
    rcases Nat.lt_or_ge j (cM L).length with h' | h'
    · exact h'
    · rw [List.getElem?_eq_none h'] at hj; cases hj
  obtain ⟨k, i, hi, rfl⟩ : ∃ k i, i < 3 ∧ j = k * 3 + i := ⟨j / 3, j % 3, by omega, by omega⟩
  obtain ⟨r, hr⟩ := list_at (l := L) (k := k) (by omega)
  rw [cM_get L k r i hr hi] at hj
  obtain ⟨h1, h2, h3⟩ := h k r hr
  match i, hi with
  | 0, _ => simp [c3] at hj; subst hj; exact h1
  | 1, _ => simp [c3] at hj; subst hj; rw [← Nat.add_assoc]; exact h2
  | 2, _ => simp [c3] at hj; subst hj; rw [← Nat.add_assoc]; exact h3

/-- A row of messages that a call owns. -/
def OwM (w : World) (B : Nat) (A : Option Addr) (c : Nat) (L : List (Ms × Value)) : Prop :=
  w.ownsRow B 24 3 (.slice A L.length c) L.length (cM L) ∧ ∀ p ∈ L, Sv w p.2 p.1.body ∧ (p.1.body = [] ∨ A = none ∨ p.2.ownBlock ≠ A.map (·.block))
theorem OwM.nil (w : World) (B : Nat) : OwM w B none 0 [] := ⟨World.ownsRow_nil _ _ _ _, fun p hp => by simp at hp⟩
theorem OwM.lies {w : World} {B : Nat} {A : Option Addr} {c : Nat} {L : List (Ms × Value)} (h : OwM w B A c L) : A = none ∨ ∃ g, A = some ⟨g, 0, none⟩ ∧ B ≤ g ∧ g < w.heap.size := by
  rcases own_addr h.1 with ⟨h1, _⟩ | h1
  · exact .inl h1
  · exact .inr h1
theorem OwM.low {w : World} {B : Nat} {A : Option Addr} {c : Nat} {L : List (Ms × Value)} (h : OwM w B A c L) : ∀ k, A.map (·.block) = some k → B ≤ k := fun k hk => by
  rcases h.lies with rfl | ⟨g, rfl, h1, _⟩
  · cases hk
  · cases hk; exact h1
theorem OwM.mv {w : World} {B : Nat} {A : Option Addr} {c : Nat} {L : List (Ms × Value)} (h : OwM w B A c L) : Mv w A L := by
  refine ⟨?_, fun p hp => (h.2 p hp).1⟩
  rcases own_addr h.1 with ⟨_, _, h1⟩ | ⟨g, rfl, _⟩
  · exact .inl (List.eq_nil_of_length_eq_zero h1)
  · refine .inr ⟨g, 0, rfl, fun k r hk => ?_⟩
    have hl : k < L.length := by
      rcases Nat.lt_or_ge k L.length with h' | h'
      · exact h'
      · rw [List.getElem?_eq_none h'] at hk; cases hk
    have q := fun j (hj : j < 3) => (World.ownsRow.cellAt h.1 (k * 3 + j) (by omega)).trans (cM_get L k r j hk hj)
    refine ⟨?_, ?_, ?_⟩
    · simp [c3]
    · simp [c3]
    · simp [c3]
theorem OwM.by {w w' : World} {B : Nat} {A : Option Addr} {c : Nat} {L : List (Ms × Value)} {row : Option Nat} (h : OwM w B A c L) (g : w.grownBy w' row) (hne : A = none ∨ A.map (·.block) ≠ row) (hb : ∀ p ∈ L, Far p.1.body p.2 row) : OwM w' B A c L :=
  ⟨World.ownsRow.kept h.1 g (by rw [slice_block]; rcases hne with rfl | hne; exact .inl rfl; exact .inr hne), fun p hp => ⟨(h.2 p hp).1.by g (hb p hp), (h.2 p hp).2⟩⟩
theorem OwM.bl {w w' : World} {B : Nat} {A : Option Addr} {c : Nat} {L : List (Ms × Value)} (h : OwM w B A c L) (g : Bl w w') : OwM w' B A c L :=
  ⟨World.ownsRow.kept h.1 (g.byr none) (by rw [slice_block]; cases A with | none => exact .inl rfl | some a => exact .inr (by simp)), fun p hp => ⟨(h.2 p hp).1.bl g, (h.2 p hp).2⟩⟩
/-- All bodies lie from block n on. -/
def Fr (n : Nat) (L : List (Ms × Value)) : Prop := ∀ p ∈ L, p.1.body = [] ∨ ∃ k, p.2.ownBlock = some k ∧ n ≤ k
theorem Fr.nil (n : Nat) : Fr n [] := fun p hp => by simp at hp
theorem Fr.le {n m : Nat} {L : List (Ms × Value)} (h : Fr n L) (hm : m ≤ n) : Fr m L := fun p hp => by
  rcases h p hp with h' | ⟨k, h1, h2⟩
  · exact .inl h'
  · exact .inr ⟨k, h1, by omega⟩
theorem Fr.app {n : Nat} {L M : List (Ms × Value)} (h : Fr n L) (k : Fr n M) : Fr n (L ++ M) := fun p hp => by
  rcases List.mem_append.1 hp with h' | h'
  · exact h p h'
  · exact k p h'
theorem Fr.far {n : Nat} {L : List (Ms × Value)} (h : Fr n L) {b : Nat} (hb : b < n) : ∀ p ∈ L, Far p.1.body p.2 (some b) := fun p hp => by
  rcases h p hp with h' | ⟨k, h1, h2⟩
  · exact .inl h'
  · refine .inr (.inr ?_)
    rw [h1]; intro e; injection e with e; omega

/-- Messages are added to a row of them that the call owns. -/
theorem run_app_m {w : World} {B : Nat} {A : Option Addr} {c : Nat} {L : List (Ms × Value)} (hown : OwM w B A c L) {A1 : Option Addr} {c1 : Nat} {M : List (Ms × Value)} (h1 : A1 = none → c1 = 0) (hM : Mv w A1 M) (hfar : ∀ p ∈ M, p.1.body = [] ∨ A = none ∨ p.2.ownBlock ≠ A.map (·.block)) (hlen : L.length + M.length ≤ 1000000000000) (hB : B ≤ w.heap.size) (ty : TypeId) :
    ∃ A' c' w', (Builtin.append_ #[35, 35] ty #[.slice A L.length c, .slice A1 M.length c1]).run Tryd.prog w = .ok (.slice A' (L.length + M.length) c') w' ∧ OwM w' B A' c' (L ++ M) ∧ w.grownBy w' (A.map (·.block)) ∧ (A'.map (·.block) = A.map (·.block) ∨ A'.map (·.block) = some w.heap.size) := by
  obtain ⟨i0, hi, hz0, hz1, hz2⟩ := info_parts infoMs
  by_cases hm : M.length = 0
  · obtain rfl : M = [] := List.eq_nil_of_length_eq_zero hm
    refine ⟨A, c, w, run_app_empty (B := B) Tryd.underlying35 hi hown.1 A1 c1 h1, by simpa using hown, By.refl _ _, .inl rfl⟩
  · obtain ⟨b, off, rfl, hrow⟩ : ∃ b off, A1 = some ⟨b, off, none⟩ ∧ RowM w b off M := by
      rcases hM.1 with h | h
      · subst h; simp at hm
      · exact h
    obtain ⟨g, cap, w', hr, q1, q2, q3, q4⟩ := run_append_lies (P := Tryd.prog) w 35 ty B 24 i0 _ 3 40 Tryd.underlying35 hi hz0 hz1 hz2 rfl (by decide) (.slice A L.length c) L.length (cM L) hown.1
      ⟨b, off, none⟩ M.length c1 (cM M) (cM_len M) hrow.news (cM_one M hM.2) (by omega) (by unfold maxLen; omega) (by omega) hB w.heap.size rfl
    rw [slice_block] at q2 q3
    refine ⟨some ⟨g, 0, none⟩, cap, w', hr, ⟨?_, ?_⟩, q2, ?_⟩
    · rw [cM_app, List.length_append]; exact q1
    · have key : ∀ p : Ms × Value, Sv w p.2 p.1.body → (p.1.body = [] ∨ A = none ∨ p.2.ownBlock ≠ A.map (·.block)) → Sv w' p.2 p.1.body ∧ (p.1.body = [] ∨ some (⟨g, 0, none⟩ : Addr) = none ∨ p.2.ownBlock ≠ (some (⟨g, 0, none⟩ : Addr)).map (·.block)) := by
        intro p hs hf
        have hfr : Far p.1.body p.2 (A.map (·.block)) := by
          rcases hf with hf | hf | hf
          · exact .inl hf
          · subst hf
            cases ho : p.2.ownBlock with
            | none => exact .inr (.inl ho)
            | some k => exact .inr (.inr (by rw [ho]; simp))
          · exact .inr (.inr hf)
        refine ⟨hs.by q2 hfr, ?_⟩
        by_cases hb : p.1.body = []
        · exact .inl hb
        · right; right
          intro e
          have hlt := hs.lt e hb
          rcases q3 with q3 | q3
          · rcases hf with hf | hf | hf
            · exact hb hf
            · subst hf; cases q3
            · exact hf (e.trans q3.symm)
          · dsimp only at hlt; omega
      intro p hp
      rcases List.mem_append.1 hp with hp | hp
      · exact key p (hown.2 p hp).1 (hown.2 p hp).2
      · exact key p (hM.2 p hp) (hfar p hp)
    · rcases q3 with q3 | q3
      · exact .inl q3.symm
      · right; rw [q3]; rfl
theorem wp_app_m {ops : Array Oper} {rest : List Oper} {o : Oper} {a : Act} {w : World} {Q : Exit → Act → World → Prop} (hgd : o.guard = none) (s x : Operand)
    (ho : o.op = .call { callee := .builtin .append, args := #[s, x], argTypes := #[35, 35] }) (A : Option Addr) (c : Nat) (L : List (Ms × Value)) (hs : a.eval s = .slice A L.length c) (B : Nat) (hown : OwM w B A c L)
    (A1 : Option Addr) (M : List (Ms × Value)) (c1 : Nat) (hx : a.eval x = .slice A1 M.length c1) (h1 : A1 = none → c1 = 0) (hM : Mv w A1 M) (hfar : ∀ p ∈ M, p.1.body = [] ∨ A = none ∨ p.2.ownBlock ≠ A.map (·.block)) (hlen : L.length + M.length ≤ 1000000000000) (hB : B ≤ w.heap.size)
    (h : ∀ A' c' w', OwM w' B A' c' (L ++ M) → w.grownBy w' (A.map (·.block)) → (A'.map (·.block) = A.map (·.block) ∨ A'.map (·.block) = some w.heap.size) → wpList Tryd.prog ops Q rest (a.put o.dst (.slice A' (L.length + M.length) c')) w') :
    wpList Tryd.prog ops Q (o :: rest) a w := by
  refine wpList_plain hgd fun K hK => ?_
  obtain ⟨A', c', w', hr, q1, q2, q3⟩ := run_app_m hown h1 hM hfar hlen hB o.type
  unfold Oper.wp execOp
  simp only [ho, resolve, invoke, builtin, Sem.run_bind, Sem.run_pure, Result.andThen_ok, List.map_toArray, List.map_cons, List.map_nil, hs, hx, hr]
  exact hK _ _ (h A' c' w' q1 q2 q3)
/-- One message that was just built. -/
theorem Mv.one {w : World} {g : Nat} {m : Ms} {v : Value} {t : TypeId} (h : At w g #[.int .i64 m.op, .int .i64 m.id, v] t) (hs : Sv w v m.body) : Mv w (some ⟨g, 0, none⟩) [(m, v)] := by
  refine ⟨.inr ⟨g, 0, rfl, fun k r hk => ?_⟩, fun p hp => by simp at hp; subst hp; exact hs⟩
  cases k with
  | zero =>
    simp at hk
    subst hk
    exact ⟨h.cell 0, h.cell 1, h.cell 2⟩
  | succ k => simp at hk

end Go.Proofs.YthkbenhlhldglaaDoor
namespace Go.Proofs.YthkbenhlhldglaaDoor
open Go.RowKit Go.Sort

/-- A number made one of 0 to m - 1. -/
def aroundM (n m : Int) : Int := if n < 0 then (-(n + 1)) % m else n % m
theorem aroundM_bd (n m : Int) (hm : 0 < m) : 0 ≤ aroundM n m ∧ aroundM n m < m := by
  unfold aroundM
  split
  · exact ⟨Int.emod_nonneg _ (by omega), Int.emod_lt_of_pos _ hm⟩
  · exact ⟨Int.emod_nonneg _ (by omega), Int.emod_lt_of_pos _ hm⟩
set_option maxHeartbeats 400000 in
theorem aroundM1 (n m : Int) (w : World) (hn : I64 n) (hm : 1 ≤ m ∧ m ≤ 1000000) :
    Calls Tryd.prog 15 #[.int .i64 n, .int .i64 m] w fun e w' => e = .returned (.int .i64 (aroundM n m)) ∧ w = w' := by
  obtain ⟨hn1, hn2⟩ := hn
  obtain ⟨hm1, hm2⟩ := hm
  go_enter Tryd.func15, Tryd.ntmps15
  go_wp2
  all_goals
    go_ret
    refine ⟨ret_int ?_, rfl⟩
    unfold aroundM
    first | (rw [if_pos ‹_›, ← Int.neg_tmod, Int.tmod_eq_emod_of_nonneg (by omega)]) | (rw [if_neg (by omega), Int.tmod_eq_emod_of_nonneg (by omega)]) | rw [if_pos ‹_›] | rw [if_neg (by omega)]

theorem fewB1 (A : Option Addr) (c : Nat) (L : List Int) (n : Nat) (m : Int) (hm : m = n) (w : World) (hA : AdB A L) (hc : L.length ≤ c) (hcm : c ≤ maxLen) (hn : n ≤ 100000) :
    Calls Tryd.prog 12 #[.slice A L.length c, .int .i64 m] w fun e w' => e = .returned (.slice A (L.take n).length c) ∧ w = w' := by
  subst hm
  have hcm2 : c ≤ 9223372036854775807 := by unfold maxLen at hcm; omega
  clear hcm
  by_cases h : n < L.length
  · obtain ⟨b, off, rfl⟩ : ∃ b off, A = some ⟨b, off, none⟩ := by
      rcases hA with hA | hA
      · subst hA; simp at h
      · exact hA
    have e : (L.take n).length = n := by rw [List.length_take]; omega
    rw [e]
    clear e
    generalize L.length = N at *
    have h' : (n : Int) < (N : Int) := by omega
    go_enter Tryd.func12, Tryd.ntmps12
    go_wp2
    go_ret
    exact ⟨rfl, rfl⟩
  · have e : (L.take n).length = L.length := by rw [List.length_take]; omega
    rw [e]
    clear e
    generalize L.length = N at *
    have h' : ¬ (n : Int) < (N : Int) := by omega
    go_enter Tryd.func12, Tryd.ntmps12
    go_wp2
    go_ret
    exact ⟨rfl, rfl⟩

end Go.Proofs.YthkbenhlhldglaaDoor
namespace Go.Proofs.YthkbenhlhldglaaDoor
open Go.RowKit Go.Sort

/-- A message made one that may be. -/
def goodM (m : Ms) (n : Nat) : Ms := ⟨max (m.op.tmod 256) (-(m.op.tmod 256)), max (m.id.tmod 4294967296) (-(m.id.tmod 4294967296)), m.body.take n⟩
theorem tmod_bd (x n : Int) (h : 0 < n) : -n < x.tmod n ∧ x.tmod n < n := by
  rcases Int.le_total 0 x with hx | hx
  · rw [Int.tmod_eq_emod_of_nonneg hx]
    have := Int.emod_nonneg x (b := n) (by omega)
    have := Int.emod_lt_of_pos x h
    omega
  · have e : x = -(-x) := by omega
    rw [e, Int.neg_tmod, Int.tmod_eq_emod_of_nonneg (by omega : 0 ≤ -x)]
    have := Int.emod_nonneg (-x) (b := n) (by omega)
    have := Int.emod_lt_of_pos (-x) h
    omega
theorem goodM_ok (m : Ms) {n : Nat} (hn : n ≤ 4096) : okM (goodM m n) := by
  have h1 := tmod_bd m.op 256 (by omega)
  have h2 := tmod_bd m.id 4294967296 (by omega)
  unfold okM goodM
  dsimp only
  rw [List.length_take]
  omega
theorem goodM_len (m : Ms) (n : Nat) : (goodM m n).body.length ≤ n := by
  unfold goodM; dsimp only; rw [List.length_take]; omega
attribute [local go_sem ↓] run_min2 run_max2

theorem decB {p : Prop} [Decidable p] {b : Bool} (h : b = true ↔ p) : b = decide p := by
  by_cases hp : p
  · rw [h.2 hp]; simp [hp]
  · cases b with
    | true => exact absurd (h.1 rfl) hp
    | false => simp [hp]
set_option maxRecDepth 100000 in
set_option maxHeartbeats 1000000 in
theorem rmayM1 (A : Option Addr) (c : Nat) (m : Ms) (w : World) :
    Calls Tryd.prog 43 #[.agg #[.int .i64 m.op, .int .i64 m.id, .slice A m.body.length c]] w (Rt w (.bool (mayM m))) := by
  obtain ⟨op, id, body⟩ := m
  unfold mayM
  dsimp only
  generalize body.length = n
  go_enter Tryd.func43, Tryd.ntmps43
  go_wp2
  all_goals
    go_ret
    refine Rt.bool ?_ ?_
    · simp [*]; try omega
    · first | exact ((Gr.refl _).alloc _) | exact ((Gr.refl _).alloc _).drew | exact (((Gr.refl _).alloc _).drewN _)
set_option maxRecDepth 100000 in
set_option maxHeartbeats 1000000 in
theorem fmay1 (A : Option Addr) (c : Nat) (m : Ms) (w : World) :
    Calls Tryd.prog 74 #[.agg #[.int .i64 m.op, .int .i64 m.id, .slice A m.body.length c]] w (Rt w (.bool (mayM m))) := by
  obtain ⟨op, id, body⟩ := m
  unfold mayM
  dsimp only
  generalize body.length = n
  go_enter Tryd.func74, Tryd.ntmps74
  go_wp2
  all_goals
    go_ret
    refine Rt.bool ?_ ?_
    · simp [*]; try omega
    · first | exact ((Gr.refl _).alloc _) | exact ((Gr.refl _).alloc _).drew | exact (((Gr.refl _).alloc _).drewN _)

end Go.Proofs.YthkbenhlhldglaaDoor
namespace Go.Proofs.YthkbenhlhldglaaDoor
open Go.RowKit Go.Sort

/-- A row of bytes that was added to. -/
def NuQ (w : World) (B : Nat) (L : List Int) (e : Ending) (w' : World) : Prop := ∃ A' c', e = .returned (.slice A' L.length c') ∧ OwB w' B A' c' L ∧ w.heap.size ≤ w'.heap.size ∧ (∀ w0 : World, w0.heap.size ≤ B → Bl w0 w → Bl w0 w')
theorem u8w (x : Int) : IntKind.u8.wrap x = x % 256 := by rw [IntKind.wrap_u8]
theorem or8 {x y : Int} (h0 : 0 ≤ x) (h1 : x ≤ 16777215) (h2 : 0 ≤ y) (h3 : y ≤ 255) : bits .or .i64 (x * 256) y = x * 256 + y :=
  bits_join .i64 63 (by decide) (fun n h h' => by rw [IntKind.wrap_i64]; omega) 8 (x * 256) y (by omega) (by omega) (by omega) h2 (by omega) (by omega)
theorem or8z {y : Int} (h2 : 0 ≤ y) (h3 : y ≤ 255) : bits .or .i64 0 y = y := by
  have := or8 (x := 0) (Int.le_refl _) (by omega) h2 h3
  simpa using this

set_option maxRecDepth 100000 in
set_option maxHeartbeats 4000000 in
theorem number1 (A0 : Option Addr) (c0 : Nat) (L : List Int) (B : Nat) (v : Int) (_ : 0 ≤ v) (_ : v ≤ 4294967295) (w : World) (hB : B ≤ w.heap.size) (hlen : L.length ≤ 1000000) (own0 : OwB w B A0 c0 L) :
    Calls Tryd.prog 110 #[.slice A0 L.length c0, .int .i64 v, .int .i64 1] w (NuQ w B (L ++ [v % 256])) := by
  have keep0 : ∀ w0 : World, w0.heap.size ≤ B → Bl w0 w → Bl w0 w := fun _ _ h => h
  have z0 := Nat.le_refl w.heap.size
  go_enter Tryd.func110, Tryd.ntmps110
  go_wp2
  refine wp_loop_rounds 2 ?_
  rw [rounds_succ]
  have o0 := own0.bl ((Bl.refl w).alloc (.cells #[.int .u8 (v % 256)] 5))
  go_wp2_with (at_builtin; refine wp_app_b rfl (.tmp 11) (.tmp 17) rfl A0 c0 (L) (by first | rfl | (simp only [List.length_append]; rfl)) B o0 (some ⟨w.heap.size, 0, none⟩) [v % 256] 1 rfl (by simp) (RwB.blk (L := [v % 256]) (At.new w _ _)) (by simp; omega) (by simp; omega) ?_; intro A1 c1 w1 own1 by1 _)
  have keep1 : ∀ w0 : World, w0.heap.size ≤ B → Bl w0 w → Bl w0 w1 := fun w0 hb h => app_bl by1 ((keep0 w0 hb h).alloc _) o0.lies hb
  have z1 : w.heap.size ≤ w1.heap.size := by have h1 := by1.size; have h2 := z0; simp at h1; omega
  rw [rounds_succ]
  go_wp2
  go_ret
  exact ⟨A1, c1, by simp, by simpa using own1, z1, keep1⟩

set_option maxRecDepth 100000 in
set_option maxHeartbeats 4000000 in
theorem number2 (A0 : Option Addr) (c0 : Nat) (L : List Int) (B : Nat) (v : Int) (_ : 0 ≤ v) (_ : v ≤ 4294967295) (w : World) (hB : B ≤ w.heap.size) (hlen : L.length ≤ 1000000) (own0 : OwB w B A0 c0 L) :
    Calls Tryd.prog 110 #[.slice A0 L.length c0, .int .i64 v, .int .i64 2] w (NuQ w B (L ++ [v / 256 % 256, v % 256])) := by
  have keep0 : ∀ w0 : World, w0.heap.size ≤ B → Bl w0 w → Bl w0 w := fun _ _ h => h
  have z0 := Nat.le_refl w.heap.size
  go_enter Tryd.func110, Tryd.ntmps110
  go_wp2
  refine wp_loop_rounds 3 ?_
  rw [rounds_succ]
  have o0 := own0.bl ((Bl.refl w).alloc (.cells #[.int .u8 (v / 256 % 256)] 5))
  go_wp2_with (at_builtin; refine wp_app_b rfl (.tmp 11) (.tmp 17) rfl A0 c0 (L) (by first | rfl | (simp only [List.length_append]; rfl)) B o0 (some ⟨w.heap.size, 0, none⟩) [v / 256 % 256] 1 rfl (by simp) (RwB.blk (L := [v / 256 % 256]) (At.new w _ _)) (by simp; omega) (by simp; omega) ?_; intro A1 c1 w1 own1 by1 _)
  have keep1 : ∀ w0 : World, w0.heap.size ≤ B → Bl w0 w → Bl w0 w1 := fun w0 hb h => app_bl by1 ((keep0 w0 hb h).alloc _) o0.lies hb
  have z1 : w.heap.size ≤ w1.heap.size := by have h1 := by1.size; have h2 := z0; simp at h1; omega
  rw [rounds_succ]
  have o1 := own1.bl ((Bl.refl w1).alloc (.cells #[.int .u8 (v % 256)] 5))
  go_wp2_with (at_builtin; refine wp_app_b rfl (.tmp 11) (.tmp 17) rfl A1 c1 (L ++ [v / 256 % 256]) (by first | rfl | (simp only [List.length_append]; rfl)) B o1 (some ⟨w1.heap.size, 0, none⟩) [v % 256] 1 rfl (by simp) (RwB.blk (L := [v % 256]) (At.new w1 _ _)) (by simp; omega) (by simp; omega) ?_; intro A2 c2 w2 own2 by2 _)
  have keep2 : ∀ w0 : World, w0.heap.size ≤ B → Bl w0 w → Bl w0 w2 := fun w0 hb h => app_bl by2 ((keep1 w0 hb h).alloc _) o1.lies hb
  have z2 : w.heap.size ≤ w2.heap.size := by have h1 := by2.size; have h2 := z1; simp at h1; omega
  rw [rounds_succ]
  go_wp2
  go_ret
  exact ⟨A2, c2, by simp, by simpa using own2, z2, keep2⟩

set_option maxRecDepth 100000 in
set_option maxHeartbeats 4000000 in
theorem number4 (A0 : Option Addr) (c0 : Nat) (L : List Int) (B : Nat) (v : Int) (hv0 : 0 ≤ v) (hv1 : v ≤ 4294967295) (w : World) (hB : B ≤ w.heap.size) (hlen : L.length ≤ 1000000) (own0 : OwB w B A0 c0 L) :
    Calls Tryd.prog 110 #[.slice A0 L.length c0, .int .i64 v, .int .i64 4] w (NuQ w B (L ++ [v / 16777216, v / 65536 % 256, v / 256 % 256, v % 256])) := by
  have keep0 : ∀ w0 : World, w0.heap.size ≤ B → Bl w0 w → Bl w0 w := fun _ _ h => h
  have z0 := Nat.le_refl w.heap.size
  go_enter Tryd.func110, Tryd.ntmps110
  go_wp2
  refine wp_loop_rounds 5 ?_
  rw [rounds_succ]
  have o0 := own0.bl ((Bl.refl w).alloc (.cells #[.int .u8 (v / 16777216)] 5))
  go_wp2_with (at_builtin; refine wp_app_b rfl (.tmp 11) (.tmp 17) rfl A0 c0 (L) (by first | rfl | (simp only [List.length_append]; rfl)) B o0 (some ⟨w.heap.size, 0, none⟩) [v / 16777216] 1 rfl (by simp) (RwB.blk (L := [v / 16777216]) (At.new w _ _)) (by simp; omega) (by simp; omega) ?_; intro A1 c1 w1 own1 by1 _)
  have keep1 : ∀ w0 : World, w0.heap.size ≤ B → Bl w0 w → Bl w0 w1 := fun w0 hb h => app_bl by1 ((keep0 w0 hb h).alloc _) o0.lies hb
  have z1 : w.heap.size ≤ w1.heap.size := by have h1 := by1.size; have h2 := z0; simp at h1; omega
  rw [rounds_succ]
  have o1 := own1.bl ((Bl.refl w1).alloc (.cells #[.int .u8 (v / 65536 % 256)] 5))
  go_wp2_with (at_builtin; refine wp_app_b rfl (.tmp 11) (.tmp 17) rfl A1 c1 (L ++ [v / 16777216]) (by first | rfl | (simp only [List.length_append]; rfl)) B o1 (some ⟨w1.heap.size, 0, none⟩) [v / 65536 % 256] 1 rfl (by simp) (RwB.blk (L := [v / 65536 % 256]) (At.new w1 _ _)) (by simp; omega) (by simp; omega) ?_; intro A2 c2 w2 own2 by2 _)
  have keep2 : ∀ w0 : World, w0.heap.size ≤ B → Bl w0 w → Bl w0 w2 := fun w0 hb h => app_bl by2 ((keep1 w0 hb h).alloc _) o1.lies hb
  have z2 : w.heap.size ≤ w2.heap.size := by have h1 := by2.size; have h2 := z1; simp at h1; omega
  rw [rounds_succ]
  have o2 := own2.bl ((Bl.refl w2).alloc (.cells #[.int .u8 (v / 256 % 256)] 5))
  go_wp2_with (at_builtin; refine wp_app_b rfl (.tmp 11) (.tmp 17) rfl A2 c2 (L ++ [v / 16777216] ++ [v / 65536 % 256]) (by first | rfl | (simp only [List.length_append]; rfl)) B o2 (some ⟨w2.heap.size, 0, none⟩) [v / 256 % 256] 1 rfl (by simp) (RwB.blk (L := [v / 256 % 256]) (At.new w2 _ _)) (by simp; omega) (by simp; omega) ?_; intro A3 c3 w3 own3 by3 _)
  have keep3 : ∀ w0 : World, w0.heap.size ≤ B → Bl w0 w → Bl w0 w3 := fun w0 hb h => app_bl by3 ((keep2 w0 hb h).alloc _) o2.lies hb
  have z3 : w.heap.size ≤ w3.heap.size := by have h1 := by3.size; have h2 := z2; simp at h1; omega
  rw [rounds_succ]
  have o3 := own3.bl ((Bl.refl w3).alloc (.cells #[.int .u8 (v % 256)] 5))
  go_wp2_with (at_builtin; refine wp_app_b rfl (.tmp 11) (.tmp 17) rfl A3 c3 (L ++ [v / 16777216] ++ [v / 65536 % 256] ++ [v / 256 % 256]) (by first | rfl | (simp only [List.length_append]; rfl)) B o3 (some ⟨w3.heap.size, 0, none⟩) [v % 256] 1 rfl (by simp) (RwB.blk (L := [v % 256]) (At.new w3 _ _)) (by simp; omega) (by simp; omega) ?_; intro A4 c4 w4 own4 by4 _)
  have keep4 : ∀ w0 : World, w0.heap.size ≤ B → Bl w0 w → Bl w0 w4 := fun w0 hb h => app_bl by4 ((keep3 w0 hb h).alloc _) o3.lies hb
  have z4 : w.heap.size ≤ w4.heap.size := by have h1 := by4.size; have h2 := z3; simp at h1; omega
  rw [rounds_succ]
  go_wp2
  go_ret
  exact ⟨A4, c4, by simp, by simpa using own4, z4, keep4⟩


set_option maxRecDepth 100000 in
set_option maxHeartbeats 4000000 in
theorem valueF1 (b off c : Nat) (x0 : Int) (w : World) (k0 : w.cell? ⟨b, off, none⟩ = some (.int .u8 x0)) (b0 : 0 ≤ x0 ∧ x0 ≤ 255) :
    Calls Tryd.prog 108 #[.slice (some ⟨b, off, none⟩) 1 c] w fun e w' => e = .returned (.int .i64 x0) ∧ w = w' := by
  obtain ⟨b00, b01⟩ := b0
  have e0 := or8z b00 b01
  go_enter Tryd.func108, Tryd.ntmps108
  go_wp2
  refine wp_loop_rounds 2 ?_
  rw [rounds_succ]
  go_wp2
  rw [rounds_succ]
  go_wp2
  go_ret
  exact ⟨rfl, rfl⟩

set_option maxRecDepth 100000 in
set_option maxHeartbeats 4000000 in
theorem value2 (b off c : Nat) (x0 x1 : Int) (w : World) (k0 : w.cell? ⟨b, off, none⟩ = some (.int .u8 x0)) (k1 : w.cell? ⟨b, off + 1, none⟩ = some (.int .u8 x1)) (b0 : 0 ≤ x0 ∧ x0 ≤ 255) (b1 : 0 ≤ x1 ∧ x1 ≤ 255) :
    Calls Tryd.prog 108 #[.slice (some ⟨b, off, none⟩) 2 c] w fun e w' => e = .returned (.int .i64 (x0 * 256 + x1)) ∧ w = w' := by
  obtain ⟨b00, b01⟩ := b0
  obtain ⟨b10, b11⟩ := b1
  have e0 := or8z b00 b01
  have e1 := or8 (x := x0) (y := x1) b00 (by omega) b10 b11
  go_enter Tryd.func108, Tryd.ntmps108
  go_wp2
  refine wp_loop_rounds 3 ?_
  rw [rounds_succ]
  go_wp2
  rw [rounds_succ]
  go_wp2
  rw [rounds_succ]
  go_wp2
  go_ret
  exact ⟨rfl, rfl⟩

set_option maxRecDepth 100000 in
set_option maxHeartbeats 4000000 in
theorem value4 (b off c : Nat) (x0 x1 x2 x3 : Int) (w : World) (k0 : w.cell? ⟨b, off, none⟩ = some (.int .u8 x0)) (k1 : w.cell? ⟨b, off + 1, none⟩ = some (.int .u8 x1)) (k2 : w.cell? ⟨b, off + 2, none⟩ = some (.int .u8 x2)) (k3 : w.cell? ⟨b, off + 3, none⟩ = some (.int .u8 x3))
    (b0 : 0 ≤ x0 ∧ x0 ≤ 255) (b1 : 0 ≤ x1 ∧ x1 ≤ 255) (b2 : 0 ≤ x2 ∧ x2 ≤ 255) (b3 : 0 ≤ x3 ∧ x3 ≤ 255) :
    Calls Tryd.prog 108 #[.slice (some ⟨b, off, none⟩) 4 c] w fun e w' => e = .returned (.int .i64 (x0 * 16777216 + x1 * 65536 + x2 * 256 + x3)) ∧ w = w' := by
  obtain ⟨b00, b01⟩ := b0
  obtain ⟨b10, b11⟩ := b1
  obtain ⟨b20, b21⟩ := b2
  obtain ⟨b30, b31⟩ := b3
  have e0 := or8z b00 b01
  have e1 := or8 (x := x0) (y := x1) b00 (by omega) b10 b11
  obtain ⟨c1, hc1⟩ : ∃ c, c = x0 * 256 + x1 := ⟨_, rfl⟩
  rw [← hc1] at e1
  have d10 : 0 ≤ c1 := by omega
  have d11 : c1 ≤ 65535 := by omega
  have e2 := or8 (x := c1) (y := x2) d10 (by omega) b20 b21
  obtain ⟨c2, hc2⟩ : ∃ c, c = c1 * 256 + x2 := ⟨_, rfl⟩
  rw [← hc2] at e2
  have d20 : 0 ≤ c2 := by omega
  have d21 : c2 ≤ 16777215 := by omega
  have e3 := or8 (x := c2) (y := x3) d20 (by omega) b30 b31
  obtain ⟨c4, hc4⟩ : ∃ c, c = c2 * 256 + x3 := ⟨_, rfl⟩
  rw [← hc4] at e3
  have he : x0 * 16777216 + x1 * 65536 + x2 * 256 + x3 = c4 := by omega
  rw [he]
  clear he hc1 hc2 hc4
  go_enter Tryd.func108, Tryd.ntmps108
  go_wp2
  refine wp_loop_rounds 5 ?_
  rw [rounds_succ]
  go_wp2
  rw [rounds_succ]
  go_wp2
  rw [rounds_succ]
  go_wp2
  rw [rounds_succ]
  go_wp2
  rw [rounds_succ]
  go_wp2
  go_ret
  exact ⟨rfl, rfl⟩

end Go.Proofs.YthkbenhlhldglaaDoor
namespace Go.Proofs.YthkbenhlhldglaaDoor
open Go.RowKit Go.Sort

theorem makeB (n : Nat) (h : n ≤ 1000000) (w : World) : (Instr.makeSlice 22 (.int .i64 0) (.int .i64 (7 + (n : Int)))).run Tryd.prog w =
    .ok (.slice (some ⟨w.heap.size, 0, none⟩) 0 (7 + n)) (w.alloc (.cells (madeCells #[.int .u8 0] (7 + n)) 5)) := by
  obtain ⟨i0, hi, hz0, hz1, hz2⟩ := info_parts infoBy
  have := run_make (P := Tryd.prog) w 22 5 i0 _ Tryd.underlying22 hi hz0 .i64 .i64 0 (7 + (n : Int)) (Int.le_refl _) (by omega) (by rw [hz2]; omega) (by omega)
  rw [this, hz1]
  have e : (7 + (n : Int)).toNat = 7 + n := by omega
  rw [e, Nat.mul_one]
  rfl
theorem madeB (n B : Nat) (h : n ≤ 1000000) (w : World) (hB : B ≤ w.heap.size) : OwB (w.alloc (.cells (madeCells #[.int .u8 0] (7 + n)) 5)) B (some ⟨w.heap.size, 0, none⟩) (7 + n) [] :=
  World.ownsRow_made w _ (7 + n) hB (by unfold maxLen; omega) (by rw [size_madeCells, Nat.mul_one])
set_option maxRecDepth 100000 in
set_option maxHeartbeats 4000000 in
theorem fwrite1 (A : Option Addr) (c : Nat) (m : Ms) (w : World) (hm : okM m) (hA : RwB w A m.body) (hn : A = none → c = 0) :
    Calls Tryd.prog 85 #[.agg #[.int .i64 m.op, .int .i64 m.id, .slice A m.body.length c]] w fun e w' => ∃ A' c', e = .returned (.tuple #[.slice A' (encM m).length c', .int .i64 0]) ∧ Sv w' (.slice A' (encM m).length c') (encM m) ∧ Bl w w' := by
  have hmb := (mayM_iff m).2 hm
  have cm := fun w' => fmay1 A c m w'
  rw [hmb] at cm
  have hA1 := hA.bl ((Bl.refl w).alloc (.cells #[.int .i64 m.op, .int .i64 m.id, .slice A m.body.length c] 24))
  have hel := encM_len m
  have hed : encM m = ((([((7 + m.body.length : Nat) : Int) / 256, ((7 + m.body.length : Nat) : Int) % 256] : List Int) ++ [m.op]) ++ [m.id / 16777216, m.id / 65536 % 256, m.id / 256 % 256, m.id % 256]) ++ m.body := by
    unfold encM; simp
  generalize encM m = E at *
  obtain ⟨op, id, body⟩ := m
  obtain ⟨⟨h1, h2⟩, ⟨h3, h4⟩, h5⟩ := hm
  dsimp only at *
  obtain ⟨n, hnn⟩ : ∃ n, n = body.length := ⟨_, rfl⟩
  rw [← hnn] at hel hed cm hA1 h5 ⊢
  have hx1 : (7 + (n : Int)) / 256 % 256 = ((7 + n : Nat) : Int) / 256 := by omega
  have hx2 : (7 + (n : Int)) % 256 = ((7 + n : Nat) : Int) % 256 := by omega
  have hx3 : op % 256 = op := by omega
  obtain ⟨W, hW⟩ : ∃ W, W = w.alloc (.cells #[.int .i64 op, .int .i64 id, .slice A n c] 24) := ⟨_, rfl⟩
  have bx : At W w.heap.size #[.int .i64 op, .int .i64 id, .slice A n c] 24 := by rw [hW]; exact At.new _ _ _
  have gW : Bl w W := by rw [hW]; exact (Bl.refl w).alloc _
  have zW : W.heap.size = w.heap.size + 1 := by rw [hW]; simp
  rw [← hW] at hA1
  replace hnn := Lib.hid hnn
  replace hel := Lib.hid hel
  replace hed := Lib.hid hed
  replace hx1 := Lib.hid hx1
  replace hx2 := Lib.hid hx2
  replace hx3 := Lib.hid hx3
  clear hA hmb
  go_enter Tryd.func85, Tryd.ntmps85
  go_wp2_with fail
  rw [← hW]
  clear hW
  refine (cm _).mono ?_
  rintro e w1 ⟨rfl, g1⟩
  have bx1 := bx.gr g1
  have hA2 := hA1.bl g1.bl
  have z1 := g1.size
  rw [zW] at z1
  have k2 := bx1.cell 2
  simp only [List.getElem?_toArray, List.getElem?_cons_zero, List.getElem?_cons_succ] at k2
  have hmk := makeB n (by omega) w1
  have own1 := madeB n W.heap.size (by omega) w1 g1.size
  have bx2 := bx1.alloc (.cells (madeCells #[.int .u8 0] (7 + n)) 5)
  have G2 : Bl W (w1.alloc (.cells (madeCells #[.int .u8 0] (7 + n)) 5)) := g1.bl.alloc _
  obtain ⟨w2, hw2⟩ : ∃ w2, w2 = w1.alloc (.cells (madeCells #[.int .u8 0] (7 + n)) 5) := ⟨_, rfl⟩
  rw [← hw2] at hmk own1 bx2 G2
  have k2' := bx2.cell 2
  simp only [List.getElem?_toArray, List.getElem?_cons_zero, List.getElem?_cons_succ] at k2'
  have z2 := G2.size
  obtain ⟨p1, hp1⟩ : ∃ p, p = w1.heap.size := ⟨_, rfl⟩
  rw [← hp1] at hmk own1
  clear hw2 hp1
  go_wp2_with fail
  refine (number2 (some ⟨p1, 0, none⟩) (7 + n) [] W.heap.size (7 + (n : Int)) (by omega) (by omega) w2 z2 (by simp) own1).mono ?_
  rintro e w3 ⟨A3, c3, rfl, own3, z3, keep3⟩
  have G3 := keep3 W (Nat.le_refl _) G2
  have bx3 := bx.bl G3
  have k30 := bx3.cell 0
  simp only [List.getElem?_toArray, List.getElem?_cons_zero] at k30
  clear hmk k2 k2'
  rw [hx1.out, hx2.out, List.nil_append] at own3
  go_wp2_with fail
  refine (number1 A3 c3 [((7 + n : Nat) : Int) / 256, ((7 + n : Nat) : Int) % 256] W.heap.size op (by omega) (by omega) w3 G3.size (by simp) own3).mono ?_
  rintro e w4 ⟨A4, c4, rfl, own4, z4, keep4⟩
  have G4 := keep4 W (Nat.le_refl _) G3
  have bx4 := bx.bl G4
  have k41 := bx4.cell 1
  simp only [List.getElem?_toArray, List.getElem?_cons_zero, List.getElem?_cons_succ] at k41
  clear k30
  rw [hx3.out] at own4
  go_wp2_with fail
  refine (number4 A4 c4 ([((7 + n : Nat) : Int) / 256, ((7 + n : Nat) : Int) % 256] ++ [op]) W.heap.size id (by omega) (by omega) w4 G4.size (by simp) own4).mono ?_
  rintro e w5 ⟨A5, c5, rfl, own5, z5, keep5⟩
  have G5 := keep5 W (Nat.le_refl _) G4
  have bx5 := bx.bl G5
  have k52 := bx5.cell 2
  simp only [List.getElem?_toArray, List.getElem?_cons_zero, List.getElem?_cons_succ] at k52
  clear k41
  have hA5 := hA1.bl G5
  obtain ⟨L5, hL5⟩ : ∃ L, L = ([((7 + n : Nat) : Int) / 256, ((7 + n : Nat) : Int) % 256] ++ [op]) ++ [id / 16777216, id / 65536 % 256, id / 256 % 256, id % 256] := ⟨_, rfl⟩
  have hl5 : L5.length = 7 := by rw [hL5]; rfl
  rw [← hL5] at own5
  replace hL5 := Lib.hid hL5
  replace hl5 := Lib.hid hl5
  go_wp2_with (at_builtin; refine wp_app_b rfl (.tmp 27) (.tmp 29) rfl A5 c5 L5 (by rw [hl5.out]; rfl) W.heap.size own5 A body c (by rw [← hnn.out]; rfl) hn hA5 (by rw [hl5.out, ← hnn.out]; omega) G5.size ?_; intro A6 c6 w6 own6 by6 _; rw [hl5.out, ← hnn.out])
  have G6 := app_bl by6 G5 own5.lies (Nat.le_refl _)
  have hE : L5 ++ body = E := by rw [hL5.out, hed.out]
  rw [hE] at own6
  go_ret2
  refine ⟨A6, c6, by rw [hel.out]; rfl, own6.sv, gW.trans G6⟩

set_option maxRecDepth 100000 in
set_option maxHeartbeats 4000000 in
theorem fwrite0 (A : Option Addr) (c : Nat) (m : Ms) (w : World) (hm : ¬ okM m) :
    Calls Tryd.prog 85 #[.agg #[.int .i64 m.op, .int .i64 m.id, .slice A m.body.length c]] w fun e w' => e = .returned (.tuple #[.slice none 0 0, .int .i64 1]) ∧ Bl w w' := by
  have hmb : mayM m = false := by
    cases h : mayM m with
    | true => exact absurd ((mayM_iff m).1 h) hm
    | false => rfl
  have cm := fun w' => fmay1 A c m w'
  rw [hmb] at cm
  clear hmb
  go_enter Tryd.func85, Tryd.ntmps85
  go_wp2_with fail
  refine (cm _).mono ?_
  rintro e w1 ⟨rfl, g1⟩
  go_wp2
  go_ret2
  exact ⟨rfl, ((Bl.refl w).alloc _).gr g1⟩

set_option maxRecDepth 100000 in
set_option maxHeartbeats 4000000 in
theorem rwrite0 (A : Option Addr) (c : Nat) (m : Ms) (w : World) (hm : ¬ okM m) :
    Calls Tryd.prog 24 #[.agg #[.int .i64 m.op, .int .i64 m.id, .slice A m.body.length c]] w fun e w' => e = .returned (.tuple #[.slice none 0 0, .int .i64 1]) ∧ Bl w w' := by
  have hmb : mayM m = false := by
    cases h : mayM m with
    | true => exact absurd ((mayM_iff m).1 h) hm
    | false => rfl
  have cm := fun w' => rmayM1 A c m w'
  rw [hmb] at cm
  clear hmb
  go_enter Tryd.func24, Tryd.ntmps24
  go_wp2_with fail
  refine (cm _).mono ?_
  rintro e w1 ⟨rfl, g1⟩
  go_wp2
  go_ret2
  exact ⟨rfl, ((Bl.refl w).alloc _).gr g1⟩

set_option maxRecDepth 100000 in
set_option maxHeartbeats 4000000 in
theorem rwrite1 (A : Option Addr) (c : Nat) (m : Ms) (w : World) (hm : okM m) (hA : RwB w A m.body) (hn : A = none → c = 0) :
    Calls Tryd.prog 24 #[.agg #[.int .i64 m.op, .int .i64 m.id, .slice A m.body.length c]] w fun e w' => ∃ A' c', e = .returned (.tuple #[.slice A' (encM m).length c', .int .i64 0]) ∧ Sv w' (.slice A' (encM m).length c') (encM m) ∧ Bl w w' := by
  have hmb := (mayM_iff m).2 hm
  have cm := fun w' => rmayM1 A c m w'
  rw [hmb] at cm
  have hA1 := hA.bl ((Bl.refl w).alloc (.cells #[.int .i64 m.op, .int .i64 m.id, .slice A m.body.length c] 24))
  have hel := encM_len m
  have hed : encM m = [((7 + m.body.length : Nat) : Int) / 256, ((7 + m.body.length : Nat) : Int) % 256, m.op, m.id / 16777216, m.id / 65536 % 256, m.id / 256 % 256, m.id % 256] ++ m.body := rfl
  generalize encM m = E at *
  obtain ⟨op, id, body⟩ := m
  obtain ⟨⟨h1, h2⟩, ⟨h3, h4⟩, h5⟩ := hm
  dsimp only at *
  obtain ⟨n, hnn⟩ : ∃ n, n = body.length := ⟨_, rfl⟩
  rw [← hnn] at hel hed cm hA1 h5 ⊢
  have hc7 : ((7 + n : Nat) : Int) = 7 + (n : Int) := by omega
  rw [hc7] at hed
  obtain ⟨W, hW⟩ : ∃ W, W = w.alloc (.cells #[.int .i64 op, .int .i64 id, .slice A n c] 24) := ⟨_, rfl⟩
  have bx : At W w.heap.size #[.int .i64 op, .int .i64 id, .slice A n c] 24 := by rw [hW]; exact At.new _ _ _
  have gW : Bl w W := by rw [hW]; exact (Bl.refl w).alloc _
  have zW : W.heap.size = w.heap.size + 1 := by rw [hW]; simp
  rw [← hW] at hA1
  replace hnn := Lib.hid hnn
  replace hel := Lib.hid hel
  replace hed := Lib.hid hed
  clear hA hmb hc7
  go_enter Tryd.func24, Tryd.ntmps24
  go_wp2_with fail
  rw [← hW]
  clear hW
  refine (cm _).mono ?_
  rintro e w1 ⟨rfl, g1⟩
  have bx1 := bx.gr g1
  have hA2 := hA1.bl g1.bl
  have k0 := bx1.cell 0
  have k1 := bx1.cell 1
  have k2 := bx1.cell 2
  simp only [List.getElem?_toArray, List.getElem?_cons_zero, List.getElem?_cons_succ] at k0 k1 k2
  have own1 := builtB [(7 + (n : Int)) / 256, (7 + (n : Int)) % 256, op, id / 16777216, id / 65536 % 256, id / 256 % 256, id % 256] W.heap.size w1 (by simp) g1.size
  have k3 := (bx1.alloc (.cells (cB [(7 + (n : Int)) / 256, (7 + (n : Int)) % 256, op, id / 16777216, id / 65536 % 256, id / 256 % 256, id % 256]).toArray 5)).cell 2
  simp only [cB, List.map_cons, List.map_nil, List.getElem?_toArray, List.getElem?_cons_zero, List.getElem?_cons_succ] at k3
  have G1 : Bl W (w1.alloc (.cells (cB [(7 + (n : Int)) / 256, (7 + (n : Int)) % 256, op, id / 16777216, id / 65536 % 256, id / 256 % 256, id % 256]).toArray 5)) := g1.bl.alloc _
  have hA3 := hA1.bl G1
  go_wp2_with (at_builtin; refine wp_app_b rfl (.tmp 43) (.tmp 45) rfl (some ⟨w1.heap.size, 0, none⟩) 7 [(7 + (n : Int)) / 256, (7 + (n : Int)) % 256, op, id / 16777216, id / 65536 % 256, id / 256 % 256, id % 256] rfl W.heap.size own1 A body c (by rw [← hnn.out]; rfl) hn hA3 (by rw [← hnn.out]; simp; omega) G1.size ?_; intro A6 c6 w6 own6 by6 _; rw [← hnn.out])
  have G6 := app_bl by6 G1 own1.lies (Nat.le_refl _)
  rw [← hed.out] at own6
  go_ret2
  refine ⟨A6, c6, by rw [hel.out]; rfl, own6.sv, gW.trans G6⟩


end Go.Proofs.YthkbenhlhldglaaDoor
namespace Go.Proofs.YthkbenhlhldglaaDoor
open Go.RowKit Go.Sort

theorem At.put3 {w : World} {b : Nat} {z0 z1 z2 : Value} {t : TypeId} (h : At w b #[z0, z1, z2] t) (u0 u1 u2 : Value) :
    At (((w.setCell ⟨b, 0, none⟩ u0).setCell ⟨b, 1, none⟩ u1).setCell ⟨b, 2, none⟩ u2) b #[u0, u1, u2] t := by
  have h1 := Go.Joins.block_setCell (i := 0) h u0
  have h2 := Go.Joins.block_setCell (i := 1) h1 u1
  have h3 := Go.Joins.block_setCell (i := 2) h2 u2
  unfold At
  simpa using h3
theorem RowB.cellD {w : World} {b off : Nat} {L : List Int} (h : RowB w b off L) {i : Nat} (hi : i < L.length) : w.cell? ⟨b, off + i, none⟩ = some (.int .u8 (L.getD i 0)) := by
  obtain ⟨x, hx⟩ := list_at hi
  rw [h i x hx, List.getD_eq_getElem?_getD, hx]; rfl
/-- A message that was read. -/
def RdQ (w : World) (L : List Int) (D : Nat → Prop) (e : Ending) (w' : World) : Prop :=
  ∃ v, e = .returned (.tuple #[.agg #[.int .i64 (rdM L).op, .int .i64 (rdM L).id, v], .int .i64 (rdN L : Nat), .int .i64 (rdE L)]) ∧ Sv w' v (rdM L).body ∧ ((rdM L).body = [] ∨ ∃ k, v.ownBlock = some k ∧ D k) ∧ Bl w w'
theorem rd_bad {L : List Int} {x : Int} (h : rdE L = x) (hx : x ≠ 0) : rdM L = ⟨0, 0, []⟩ ∧ rdN L = 0 := by
  unfold rdM rdN
  rw [if_neg (by rw [h]; exact hx), if_neg (by rw [h]; exact hx)]; exact ⟨rfl, rfl⟩
theorem RdQ.bad {w w' : World} {L : List Int} {D : Nat → Prop} {x : Int} (h : rdE L = x) (hx : x ≠ 0) (g : Bl w w') : RdQ w L D (.returned (.tuple #[.agg #[.int .i64 0, .int .i64 0, .slice none 0 0], .int .i64 0, .int .i64 x])) w' := by
  obtain ⟨h1, h2⟩ := rd_bad h hx
  refine ⟨.slice none 0 0, by rw [h1, h2, h]; rfl, by rw [h1]; exact Sv.nil _, by rw [h1]; exact .inl rfl, g⟩
theorem rd_good {L : List Int} (h : rdE L = 0) : rdM L = ⟨L.getD 2 0, L.getD 3 0 * 16777216 + L.getD 4 0 * 65536 + L.getD 5 0 * 256 + L.getD 6 0, (L.take (hdN L).toNat).drop 7⟩ ∧ rdN L = (hdN L).toNat := by
  unfold rdM rdN
  rw [if_pos h, if_pos h]; exact ⟨rfl, rfl⟩

end Go.Proofs.YthkbenhlhldglaaDoor
namespace Go.Proofs.YthkbenhlhldglaaDoor
open Go.RowKit Go.Sort

/-- Messages that were split. -/
def SpQ (w : World) (L : List Int) (D : Nat → Prop) (e : Ending) (w' : World) : Prop :=
  ∃ (A' : Option Addr) (c' : Nat) (X : List (Ms × Value)), e = .returned (.tuple #[.slice A' X.length c', .int .i64 ((spl L).2.1 : Nat), .int .i64 (spl L).2.2]) ∧ X.map Prod.fst = (spl L).1 ∧ Mv w' A' X ∧ (A' = none → c' = 0) ∧ (∀ k, A'.map (·.block) = some k → w.heap.size ≤ k) ∧ (∀ p ∈ X, p.1.body = [] ∨ ∃ k, p.2.ownBlock = some k ∧ D k) ∧ Bl w w'
/-- What was split so far, and what is left to split, is what all is. -/
def Upt (L : List Int) (k : Nat) (X : List (Ms × Value)) : Prop := spl L = (X.map Prod.fst ++ (spl (L.drop k)).1, k + (spl (L.drop k)).2.1, (spl (L.drop k)).2.2)
theorem Upt.zero (L : List Int) : Upt L 0 [] := by unfold Upt; simp
theorem Upt.step {L : List Int} {k : Nat} {X : List (Ms × Value)} (h : Upt L k X) (hr : rdE (L.drop k) = 0) (v : Value) : Upt L (k + rdN (L.drop k)) (X ++ [(rdM (L.drop k), v)]) := by
  unfold Upt at *
  rw [h, spl_ok hr, List.drop_drop]
  simp [Nat.add_assoc]
theorem Upt.bad {L : List Int} {k : Nat} {X : List (Ms × Value)} (h : Upt L k X) (hk : k < L.length) (hr : rdE (L.drop k) ≠ 0) : spl L = (X.map Prod.fst, k, rdE (L.drop k)) := by
  unfold Upt at h
  have hne : L.drop k ≠ [] := by
    intro e
    have := congrArg List.length e
    rw [List.length_drop, List.length_nil] at this
    omega
  rw [h, spl_bad hne hr]
  simp
theorem Upt.all {L : List Int} {X : List (Ms × Value)} (h : Upt L L.length X) : spl L = (X.map Prod.fst, L.length, 0) := by
  unfold Upt at h
  rw [h, List.drop_length, spl_nil]
  simp
theorem Upt.len {L : List Int} {k : Nat} {X : List (Ms × Value)} (h : Upt L k X) : X.length ≤ L.length := by
  have h1 := spl_few L
  unfold Upt at h
  rw [h] at h1
  simp at h1
  omega

end Go.Proofs.YthkbenhlhldglaaDoor
namespace Go.Proofs.YthkbenhlhldglaaDoor
open Go.RowKit Go.Sort

end Go.Proofs.YthkbenhlhldglaaDoor
namespace Go.Proofs.YthkbenhlhldglaaDoor
open Go.RowKit Go.Sort

set_option maxRecDepth 100000 in
set_option maxHeartbeats 4000000 in
theorem rsame1 (A A2 : Option Addr) (c c2 : Nat) (m : Ms) (w : World) (hA : RwB w A m.body) (hA2 : RwB w A2 m.body) :
    Calls Tryd.prog 22 #[.agg #[.int .i64 m.op, .int .i64 m.id, .slice A m.body.length c], .agg #[.int .i64 m.op, .int .i64 m.id, .slice A2 m.body.length c2]] w (Rt w (.bool true)) := by
  obtain ⟨op, id, body⟩ := m
  dsimp only at *
  have g : Gr w ((w.alloc (.cells #[.int .i64 op, .int .i64 id, .slice A body.length c] 24)).alloc (.cells #[.int .i64 op, .int .i64 id, .slice A2 body.length c2] 24)) := ((Gr.refl w).alloc _).alloc _
  have t1 := Sv.text (c := c) (hA.bl g.bl)
  have t2 := Sv.text (c := c2) (hA2.bl g.bl)
  generalize strOfNums body = S at *
  generalize body.length = n at *
  clear hA hA2
  go_enter Tryd.func22, Tryd.ntmps22
  go_wp2
  go_ret
  exact ⟨by simp, g⟩

end Go.Proofs.YthkbenhlhldglaaDoor
