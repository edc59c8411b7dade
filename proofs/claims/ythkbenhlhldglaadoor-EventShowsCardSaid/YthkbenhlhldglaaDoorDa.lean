/-
  What is proved: plain mathematics of events: which may be, how a message is read as one and written of one; what Good makes of any may be, and is read as it was; No program.
-/
import Derived.Test.YthkbenhlhldglaaDoorMb
import Derived.Test.YthkbenhlhldglaaDoorMe
namespace Go.Proofs.YthkbenhlhldglaaDoor

/-- An event. -/
structure Ev where
  k : Int
  id : Int
  a : Int
  b : Int
def zE : Ev := ⟨0, 0, 0, 0⟩
def efs : List (List UInt8) := [[117, 117], [117], [], [117, 117], [105, 105], []]
def efL (n : Nat) : List UInt8 := efs.getD n []
def efS (n : Nat) : ByteArray := ⟨(efL n).toArray⟩
theorem efS_list (n : Nat) : (efS n).data.toList = efL n := rfl
theorem efL_ok {n : Nat} (h : n < 6) : formR (efL n) = true ∧ formB (efL n) = true ∧ (efL n).length ≤ 2 := by
  have : ∀ m : Fin 6, formR (efL m.1) = true ∧ formB (efL m.1) = true ∧ (efL m.1).length ≤ 2 := by decide
  exact this ⟨n, h⟩
theorem six {n : Nat} (h : n < 6) : n = 0 ∨ n = 1 ∨ n = 2 ∨ n = 3 ∨ n = 4 ∨ n = 5 := by omega
def enms : List (List UInt8) := [[101, 114, 114, 111, 114], [102, 97, 116, 97, 108], [114, 101, 108, 101, 97, 115, 101], [100, 111, 110, 101], [101, 110, 116, 101, 114], [108, 101, 97, 118, 101]]
def enL (n : Nat) : List UInt8 := enms.getD n []
def enS (n : Nat) : ByteArray := ⟨(enL n).toArray⟩

/-- An event that may be. -/
def argE (e : Ev) : Prop :=
  (e.k = 0 ∧ (1 ≤ e.a ∧ e.a ≤ 12) ∧ 0 ≤ e.b ∧ e.b ≤ 255) ∨ (e.k = 1 ∧ (1 ≤ e.a ∧ e.a ≤ 12) ∧ e.b = 0) ∨ (e.k = 2 ∧ e.a = 0 ∧ e.b = 0) ∨
    (e.k = 3 ∧ (0 ≤ e.a ∧ e.a ≤ 4294967295) ∧ 0 ≤ e.b ∧ e.b ≤ 4294967295) ∨ (e.k = 4 ∧ (-2147483648 ≤ e.a ∧ e.a ≤ 2147483647) ∧ -2147483648 ≤ e.b ∧ e.b ≤ 2147483647) ∨ (e.k = 5 ∧ e.a = 0 ∧ e.b = 0)
def okE (e : Ev) : Prop := (0 ≤ e.id ∧ e.id ≤ 4294967295) ∧ argE e
instance (e : Ev) : Decidable (argE e) := by unfold argE; infer_instance
instance (e : Ev) : Decidable (okE e) := by unfold okE; infer_instance
def mayE (e : Ev) : Bool := decide (okE e)
theorem mayE_iff (e : Ev) : mayE e = true ↔ okE e := by unfold mayE; rw [decide_eq_true_iff]
theorem okE.k {e : Ev} (h : okE e) : 0 ≤ e.k ∧ e.k ≤ 5 := by obtain ⟨_, h⟩ := h; unfold argE at h; omega
/-- Its arguments, its message. -/
def argsE (e : Ev) : List Av := ([vI e.a, vI e.b] : List Av).take (efL e.k.toNat).length
def bodyE (e : Ev) : List Int := if e.k = 0 ∨ e.k = 3 ∨ e.k = 4 then d4 e.a ++ d4 e.b else if e.k = 1 then d4 e.a else []
def msE (e : Ev) : Ms := ⟨128 + e.k, e.id, bodyE e⟩
theorem d4_byE (n : Int) : ByL (d4 n) := by
  intro x hx
  simp [d4] at hx
  rcases hx with rfl | rfl | rfl | rfl <;> omega
theorem bodyE_by (e : Ev) : ByL (bodyE e) ∧ (bodyE e).length ≤ 8 := by
  unfold bodyE
  split
  · exact ⟨(d4_byE _).app (d4_byE _), by simp [d4_len]⟩
  · split
    · exact ⟨d4_byE _, by simp [d4_len]⟩
    · exact ⟨ByL.nil, by simp⟩
theorem okA_u {n : Int} (h0 : 0 ≤ n) (h1 : n ≤ 4294967295) : okA 117 (vI n) := .inr (.inl ⟨rfl, n, rfl, h0, h1⟩)
theorem okA_i {n : Int} (h : small n) : okA 105 (vI n) := .inl ⟨rfl, n, rfl, h⟩
theorem argsE_ok {e : Ev} (h : okE e) : OkL (efL e.k.toNat) (argsE e) := by
  obtain ⟨k, id, a, b⟩ := e
  obtain ⟨_, h⟩ := h
  unfold argE at h
  dsimp only at h
  rcases h with ⟨rfl, h1, h2⟩ | ⟨rfl, h1, h2⟩ | ⟨rfl, h1, h2⟩ | ⟨rfl, h1, h2⟩ | ⟨rfl, h1, h2⟩ | ⟨rfl, h1, h2⟩
  · show OkL [117, 117] [vI a, vI b]
    exact .cons (okA_u (by omega) (by omega)) (.cons (okA_u (by omega) (by omega)) .nil)
  · show OkL [117] [vI a]
    exact .cons (okA_u (by omega) (by omega)) .nil
  · exact .nil
  · show OkL [117, 117] [vI a, vI b]
    exact .cons (okA_u (by omega) (by omega)) (.cons (okA_u (by omega) (by omega)) .nil)
  · show OkL [105, 105] [vI a, vI b]
    exact .cons (okA_i ⟨by omega, by omega⟩) (.cons (okA_i ⟨by omega, by omega⟩) .nil)
  · exact .nil
theorem pk_uu {a b : Int} (h0 : 0 ≤ a ∧ a ≤ 4294967295) (h1 : 0 ≤ b ∧ b ≤ 4294967295) : pkA [] [117, 117] [vI a, vI b] = some (d4 a ++ d4 b) := by
  unfold pkA; rw [put_u h0.1 h0.2]; dsimp only
  unfold pkA; rw [put_u h1.1 h1.2]; rfl
theorem pk_ii {a b : Int} (h0 : small a) (h1 : small b) : pkA [] [105, 105] [vI a, vI b] = some (d4 a ++ d4 b) := by
  unfold pkA; rw [put_i h0]; dsimp only
  unfold pkA; rw [put_i h1]; rfl
theorem pk_u {a : Int} (h0 : 0 ≤ a ∧ a ≤ 4294967295) : pkA [] [117] [vI a] = some (d4 a) := by
  unfold pkA; rw [put_u h0.1 h0.2]; rfl
theorem pkA_ev {e : Ev} (h : okE e) : pkA [] (efL e.k.toNat) (argsE e) = some (bodyE e) := by
  obtain ⟨k, id, a, b⟩ := e
  obtain ⟨_, h⟩ := h
  unfold argE at h
  dsimp only at h
  rcases h with ⟨rfl, h1, h2⟩ | ⟨rfl, h1, h2⟩ | ⟨rfl, h1, h2⟩ | ⟨rfl, h1, h2⟩ | ⟨rfl, h1, h2⟩ | ⟨rfl, h1, h2⟩
  · exact pk_uu (a := a) (b := b) (by omega) (by omega)
  · exact pk_u (a := a) (by omega)
  · rfl
  · exact pk_uu (a := a) (b := b) (by omega) (by omega)
  · exact pk_ii (a := a) (b := b) ⟨by omega, by omega⟩ ⟨by omega, by omega⟩
  · rfl
theorem kE_lt {e : Ev} (h : 0 ≤ e.k ∧ e.k ≤ 5) : e.k.toNat < 6 := by omega
theorem argsE_len {e : Ev} (h : 0 ≤ e.k ∧ e.k ≤ 5) : (argsE e).length = (efL e.k.toNat).length := by
  have := (efL_ok (kE_lt h)).2.2
  unfold argsE
  rw [List.length_take]
  simp only [List.length_cons, List.length_nil]
  omega
theorem pkR_ev {e : Ev} (h : okE e) : pkR (efL e.k.toNat) (argsE e) = (bodyE e, 0) := by
  unfold pkR
  rw [if_pos ⟨(efL_ok (kE_lt h.k)).2.1, argsE_len h.k⟩, pkA_ev h]
  show (if 4096 < (bodyE e).length then (([], 7) : List Int × Int) else (bodyE e, 0)) = _
  have := (bodyE_by e).2
  rw [if_neg (by omega)]
theorem okM_ev {e : Ev} (h : okE e) : okM (msE e) := by
  have h1 := h.k
  have h2 := (bodyE_by e).2
  refine ⟨⟨?_, ?_⟩, h.1, ?_⟩
  · show 0 ≤ 128 + e.k; omega
  · show 128 + e.k ≤ 255; omega
  · show (bodyE e).length ≤ 4096; omega

/-- What the program asks ahead of Pack: its numbers, as far as its form does not say it; and that the rest is 0. -/
def tellB (e : Ev) : Bool := if e.k = 0 then decide (1 ≤ e.a ∧ e.a ≤ 12 ∧ 0 ≤ e.b ∧ e.b ≤ 255) else if e.k = 1 then decide (1 ≤ e.a ∧ e.a ≤ 12) else true
def restE (e : Ev) : List Int := ([e.a, e.b] : List Int).drop (efL e.k.toNat).length
theorem put_u_none {n : Int} (h : ¬ (0 ≤ n ∧ n ≤ 4294967295)) : put 117 (vI n) = none := by
  unfold put; rw [if_neg (by decide), if_pos rfl, if_neg]
  exact fun h' => h ⟨h'.2.1, h'.2.2⟩
theorem put_i_none {n : Int} (h : ¬ small n) : put 105 (vI n) = none := by
  unfold put; rw [if_pos rfl, if_neg]
  exact fun h' => h ((smallB_iff n).1 h'.2)
/-- What may not be fails at one of them. -/
theorem not_ok {e : Ev} (hk : 0 ≤ e.k ∧ e.k ≤ 5) (ht : tellB e = true) (hr : ∀ n ∈ restE e, n = 0) (h : ¬ okE e) :
    pkR (efL e.k.toNat) (argsE e) = ([], 1) ∨ (pkR (efL e.k.toNat) (argsE e) = (bodyE e, 0) ∧ ¬ okM (msE e)) := by
  have hl := argsE_len hk
  have hb := (bodyE_by e).2
  have fb := (efL_ok (kE_lt hk)).2.1
  have key : pkA [] (efL e.k.toNat) (argsE e) = none ∨ (pkA [] (efL e.k.toNat) (argsE e) = some (bodyE e) ∧ argE e) := by
    obtain ⟨k, id, a, b⟩ := e
    have h6 : k = 0 ∨ k = 1 ∨ k = 2 ∨ k = 3 ∨ k = 4 ∨ k = 5 := by dsimp only at hk; omega
    unfold argE
    unfold tellB at ht
    unfold restE at hr
    rcases h6 with rfl | rfl | rfl | rfl | rfl | rfl
    · right
      dsimp only at ht
      rw [if_pos rfl, decide_eq_true_iff] at ht
      exact ⟨pk_uu (a := a) (b := b) (by omega) (by omega), .inl ⟨rfl, ⟨ht.1, ht.2.1⟩, ht.2.2⟩⟩
    · right
      dsimp only at ht
      rw [if_neg (by omega), if_pos rfl, decide_eq_true_iff] at ht
      have := hr b (by simp [efL, efs])
      exact ⟨pk_u (a := a) (by omega), .inr (.inl ⟨rfl, ht, this⟩)⟩
    · right
      have h1 := hr a (by simp [efL, efs])
      have h2 := hr b (by simp [efL, efs])
      exact ⟨rfl, .inr (.inr (.inl ⟨rfl, h1, h2⟩))⟩
    · by_cases ha : 0 ≤ a ∧ a ≤ 4294967295
      · by_cases hb : 0 ≤ b ∧ b ≤ 4294967295
        · exact .inr ⟨pk_uu ha hb, .inr (.inr (.inr (.inl ⟨rfl, ha, hb⟩)))⟩
        · left
          show pkA [] [117, 117] [vI a, vI b] = none
          unfold pkA; rw [put_u ha.1 ha.2]; dsimp only
          unfold pkA; rw [put_u_none hb]
      · left
        show pkA [] [117, 117] [vI a, vI b] = none
        unfold pkA; rw [put_u_none ha]
    · by_cases ha : small a
      · by_cases hb : small b
        · exact .inr ⟨pk_ii ha hb, .inr (.inr (.inr (.inr (.inl ⟨rfl, ha, hb⟩))))⟩
        · left
          show pkA [] [105, 105] [vI a, vI b] = none
          unfold pkA; rw [put_i ha]; dsimp only
          unfold pkA; rw [put_i_none hb]
      · left
        show pkA [] [105, 105] [vI a, vI b] = none
        unfold pkA; rw [put_i_none ha]
    · right
      have h1 := hr a (by simp [efL, efs])
      have h2 := hr b (by simp [efL, efs])
      exact ⟨rfl, .inr (.inr (.inr (.inr (.inr ⟨rfl, h1, h2⟩))))⟩
  unfold pkR
  rw [if_pos ⟨fb, hl⟩]
  rcases key with key | ⟨key, ha⟩
  · left; rw [key]; rfl
  · right
    rw [key]
    refine ⟨?_, fun hm => h ⟨hm.2.1, ha⟩⟩
    show (if 4096 < (bodyE e).length then (([], 7) : List Int × Int) else (bodyE e, 0)) = _
    rw [if_neg (by omega)]
theorem ok_tell {e : Ev} (h : okE e) : tellB e = true ∧ ∀ n ∈ restE e, n = 0 := by
  obtain ⟨k, id, a, b⟩ := e
  obtain ⟨_, h⟩ := h
  unfold argE at h
  unfold tellB restE
  dsimp only at h ⊢
  rcases h with ⟨rfl, h1, h2⟩ | ⟨rfl, h1, h2⟩ | ⟨rfl, h1, h2⟩ | ⟨rfl, h1, h2⟩ | ⟨rfl, h1, h2⟩ | ⟨rfl, h1, h2⟩
  · exact ⟨by rw [if_pos rfl, decide_eq_true_iff]; omega, by simp [efL, efs]⟩
  · exact ⟨by rw [if_neg (by omega), if_pos rfl, decide_eq_true_iff]; omega, by simp [efL, efs, h2]⟩
  · exact ⟨by simp, by simp [efL, efs, h1, h2]⟩
  · exact ⟨by simp, by simp [efL, efs]⟩
  · exact ⟨by simp, by simp [efL, efs]⟩
  · exact ⟨by simp, by simp [efL, efs, h1, h2]⟩

/-- The event of a message; of messages; of bytes. -/
def setE (k id : Int) (l : List Av) : Ev := ⟨k, id, (l.map (·.n)).getD 0 0, (l.map (·.n)).getD 1 0⟩
def decUE (k id : Int) (u : List Av × Int) : Ev × Int := if u.2 = 0 then (if mayE (setE k id u.1) = true then (setE k id u.1, 0) else (zE, 4)) else (zE, u.2)
def decE (m : Ms) : Ev × Int := if 0 ≤ m.op - 128 ∧ m.op - 128 ≤ 5 then decUE (m.op - 128) m.id (unR (efL (m.op - 128).toNat) m.body) else (zE, 12)
def rdL : List Ms → List Ev × Int
  | [] => ([], 0)
  | m :: l => if (decE m).2 = 0 then (if (rdL l).2 = 0 then ((decE m).1 :: (rdL l).1, 0) else ([], (rdL l).2)) else ([], (decE m).2)
def readE (L : List Int) : List Ev × Int := if (rdL (spl L).1).2 = 0 then (if (spl L).2.2 = 0 then ((rdL (spl L).1).1, 0) else ([], (spl L).2.2)) else ([], (rdL (spl L).1).2)
theorem dec_ms {e : Ev} (h : okE e) : decE (msE e) = (e, 0) := by
  have hk := h.k
  obtain ⟨f1, f2, f3⟩ := efL_ok (kE_lt hk)
  obtain ⟨b, h1, _, h3⟩ := round _ _ [] f1 (argsE_ok h)
  rw [pkA_ev h] at h1
  cases h1
  unfold decE
  have e0 : (msE e).op - 128 = e.k := by show 128 + e.k - 128 = e.k; omega
  rw [e0, if_pos hk]
  show decUE e.k e.id (unR (efL e.k.toNat) (bodyE e)) = _
  unfold unR
  rw [if_pos f2, h3]
  unfold decUE
  rw [if_pos rfl]
  have hs : setE e.k e.id ([] ++ argsE e) = e := by
    obtain ⟨k, id, a, b⟩ := e
    obtain ⟨_, h⟩ := h
    unfold argE at h
    dsimp only at h
    rcases h with ⟨rfl, h1, h2⟩ | ⟨rfl, h1, h2⟩ | ⟨rfl, h1, h2⟩ | ⟨rfl, h1, h2⟩ | ⟨rfl, h1, h2⟩ | ⟨rfl, h1, h2⟩
    · rfl
    · subst h2; rfl
    · subst h1 h2; rfl
    · rfl
    · rfl
    · subst h1 h2; rfl
  dsimp only
  rw [hs, if_pos ((mayE_iff e).2 h)]
theorem spl_encs : ∀ l : List Ms, (∀ m ∈ l, okM m) → (spl (encsM l)).1 = l ∧ (spl (encsM l)).2.2 = 0
  | [], _ => by
    show (spl []).1 = [] ∧ (spl []).2.2 = 0
    rw [spl_nil]; exact ⟨rfl, rfl⟩
  | m :: l, h => by
    show (spl (encM m ++ encsM l)).1 = _ ∧ (spl (encM m ++ encsM l)).2.2 = 0
    obtain ⟨h1, h2, h3⟩ := rd_enc (h m (by simp)) (encsM l)
    obtain ⟨i1, i2⟩ := spl_encs l fun m' hm => h m' (by simp [hm])
    rw [spl_ok h1, h2, h3, List.drop_left]
    exact ⟨by rw [i1], i2⟩
theorem rdL_ms : ∀ l : List Ev, (∀ e ∈ l, okE e) → rdL (l.map msE) = (l, 0)
  | [], _ => rfl
  | e :: l, h => by
    show (if (decE (msE e)).2 = 0 then (if (rdL (l.map msE)).2 = 0 then ((decE (msE e)).1 :: (rdL (l.map msE)).1, (0 : Int)) else ([], (rdL (l.map msE)).2)) else ([], (decE (msE e)).2)) = _
    rw [dec_ms (h e (by simp)), rdL_ms l fun e' he => h e' (by simp [he])]
    rw [if_pos rfl, if_pos rfl]
/-- The bytes of events. -/
def bytesE (l : List Ev) : List Int := encsM (l.map msE)
theorem bytesE_snoc (l : List Ev) (e : Ev) : bytesE (l ++ [e]) = bytesE l ++ encM (msE e) := by
  unfold bytesE
  rw [List.map_append, encsM_app]
  show encsM _ ++ (encM (msE e) ++ encsM []) = _
  rw [show encsM [] = [] from rfl, List.append_nil]
theorem bytesE_cons (l : List Ev) (e : Ev) : bytesE (e :: l) = encM (msE e) ++ bytesE l := rfl
theorem read_bytes {l : List Ev} (h : ∀ e ∈ l, okE e) : readE (bytesE l) = (l, 0) := by
  obtain ⟨h1, h2⟩ := spl_encs (l.map msE) fun m hm => by
    obtain ⟨e, he, rfl⟩ := List.mem_map.1 hm
    exact okM_ev (h e he)
  unfold readE bytesE
  rw [h1, h2, rdL_ms l h, if_pos rfl, if_pos rfl]
theorem encE_len (e : Ev) : (encM (msE e)).length ≤ 15 ∧ 7 ≤ (encM (msE e)).length := by
  rw [encM_len]
  have := (bodyE_by e).2
  show 7 + (bodyE e).length ≤ 15 ∧ _
  omega
theorem encE_by {e : Ev} (h : okE e) : ByL (encM (msE e)) := encM_by (okM_ev h) (bodyE_by e).1
theorem bytesE_len : ∀ l : List Ev, (bytesE l).length ≤ 15 * l.length
  | [] => Nat.le_refl _
  | e :: l => by
    rw [bytesE_cons, List.length_append, List.length_cons]
    have := bytesE_len l
    have := (encE_len e).1
    omega
theorem bytesE_by : ∀ l : List Ev, (∀ e ∈ l, okE e) → ByL (bytesE l)
  | [], _ => ByL.nil
  | e :: l, h => by
    rw [bytesE_cons]
    exact (encE_by (h e (by simp))).app (bytesE_by l fun e' he => h e' (by simp [he]))

/-- What Good makes. -/
def ab (n : Int) : Int := max n (-n)
def goodE (e : Ev) : Ev :=
  let k := ab (e.k.tmod 6)
  let a := if k = 2 ∨ k = 5 then 0 else e.a.tmod 2147483648
  let b := if k = 1 ∨ k = 2 ∨ k = 5 then 0 else e.b.tmod 2147483648
  ⟨k, ab (e.id.tmod 4294967296), if k = 4 then a else if k < 2 then 1 + (ab a).tmod 12 else ab a, if k = 4 then b else if k < 2 then (ab b).tmod 256 else ab b⟩
theorem ab_tmod (n : Int) (m : Nat) (hm : 0 < m) : 0 ≤ ab (n.tmod m) ∧ ab (n.tmod m) < m := by
  have h := Int.tmod_lt_of_pos n (show (0 : Int) < m by omega)
  have h2 : -(m : Int) < n.tmod m := by
    have h3 := Int.tmod_lt_of_pos (-n) (show (0 : Int) < m by omega)
    rw [Int.neg_tmod] at h3
    omega
  unfold ab
  omega
theorem tmod_nn {n : Int} (h0 : 0 ≤ n) (m : Int) (hm : 0 < m) : 0 ≤ n.tmod m ∧ n.tmod m < m := ⟨Int.tmod_nonneg m h0, Int.tmod_lt_of_pos n hm⟩
theorem goodE_ok (e : Ev) : okE (goodE e) := by
  have k1 := ab_tmod e.k 6 (by omega)
  have i1 := ab_tmod e.id 4294967296 (by omega)
  have a1 := ab_tmod e.a 2147483648 (by omega)
  have b1 := ab_tmod e.b 2147483648 (by omega)
  refine ⟨⟨i1.1, by have := i1.2; show ab (e.id.tmod 4294967296) ≤ 4294967295; exact Int.le_of_lt_add_one this⟩, ?_⟩
  unfold goodE argE
  dsimp only
  change 0 ≤ ab (e.k.tmod 6) ∧ ab (e.k.tmod 6) < 6 at k1
  change 0 ≤ ab (e.a.tmod 2147483648) ∧ ab (e.a.tmod 2147483648) < 2147483648 at a1
  change 0 ≤ ab (e.b.tmod 2147483648) ∧ ab (e.b.tmod 2147483648) < 2147483648 at b1
  clear i1
  generalize ab (e.k.tmod 6) = K at *
  generalize e.a.tmod 2147483648 = A at *
  generalize e.b.tmod 2147483648 = B at *
  have kk : K = 0 ∨ K = 1 ∨ K = 2 ∨ K = 3 ∨ K = 4 ∨ K = 5 := by omega
  have z : ab 0 = 0 := rfl
  have t1 := tmod_nn a1.1 12 (by omega)
  have t2 := tmod_nn b1.1 256 (by omega)
  have sA : -2147483648 ≤ A ∧ A ≤ 2147483647 := by unfold ab at a1; omega
  have sB : -2147483648 ≤ B ∧ B ≤ 2147483647 := by unfold ab at b1; omega
  rcases kk with rfl | rfl | rfl | rfl | rfl | rfl
  all_goals
    simp [z]
    try omega

end Go.Proofs.YthkbenhlhldglaaDoor
