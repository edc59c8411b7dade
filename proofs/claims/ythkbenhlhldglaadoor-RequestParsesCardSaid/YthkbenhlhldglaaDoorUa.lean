/-
  What is proved: plain mathematics of arguments, their forms and their bytes: what is packed is unpacked as it was. No program.
-/
import Derived.Test.YthkbenhlhldglaaDoorMa
namespace Go.Proofs.YthkbenhlhldglaaDoor

/-- An argument: its kind, and what it is as one of each kind. -/
structure Av where
  k : Int
  n : Int
  s : ByteArray
  x0 : Int
  y0 : Int
  x1 : Int
  y1 : Int
  b : List Int
def vI (n : Int) : Av := ⟨0, n, ⟨#[]⟩, 0, 0, 0, 0, []⟩
def vS (s : ByteArray) : Av := ⟨1, 0, s, 0, 0, 0, 0, []⟩
def vR (x0 y0 x1 y1 : Int) : Av := ⟨2, 0, ⟨#[]⟩, x0, y0, x1, y1, []⟩
def vB (b : List Int) : Av := ⟨3, 0, ⟨#[]⟩, 0, 0, 0, 0, b⟩

def small (n : Int) : Prop := -2147483648 ≤ n ∧ n ≤ 2147483647
def smallB (n : Int) : Bool := decide (-2147483648 ≤ n) && decide (n ≤ 2147483647)
theorem smallB_iff (n : Int) : smallB n = true ↔ small n := by unfold smallB small; rw [Bool.and_eq_true, decide_eq_true_iff, decide_eq_true_iff]
/-- A number's four bytes. -/
def d4 (n : Int) : List Int := [n / 16777216 % 256, n / 65536 % 256, n / 256 % 256, n % 256]
/-- A text's bytes. -/
def tb (s : ByteArray) : List Int := s.data.toList.map fun c => (c.toNat : Int)
theorem tb_len (s : ByteArray) : (tb s).length = s.size := by unfold tb; rw [List.length_map]; rfl
theorem d4_len (n : Int) : (d4 n).length = 4 := rfl

/-- An argument's bytes. -/
def put (c : UInt8) (v : Av) : Option (List Int) :=
  if c = 105 then (if v.k = 0 ∧ smallB v.n = true then some (d4 v.n) else none)
  else if c = 117 then (if v.k = 0 ∧ 0 ≤ v.n ∧ v.n ≤ 4294967295 then some (d4 v.n) else none)
  else if c = 115 then (if v.k = 1 ∧ v.s.size ≤ 255 then some ((v.s.size : Int) :: tb v.s) else none)
  else if c = 114 then (if v.k = 2 ∧ smallB v.x0 = true ∧ smallB v.y0 = true ∧ smallB v.x1 = true ∧ smallB v.y1 = true then some (d4 v.x0 ++ d4 v.y0 ++ d4 v.x1 ++ d4 v.y1) else none)
  else if c = 98 then (if v.k = 3 ∧ v.b.length ≤ 4096 then some v.b else none)
  else none
/-- The number of four bytes. -/
def n4 (b : List Int) : Int := b.getD 0 0 * 16777216 + b.getD 1 0 * 65536 + b.getD 2 0 * 256 + b.getD 3 0
def sg (n : Int) : Int := if 2147483647 < n then n - 4294967296 else n
/-- Bytes made a text. -/
def tx (b : List Int) : ByteArray := ⟨(b.map fun x => UInt8.ofNat x.toNat).toArray⟩
/-- How many bytes the argument has that bytes begin with. -/
def gn (c : UInt8) (b : List Int) : Nat :=
  if c = 105 ∨ c = 117 then 4 else if c = 114 then 16 else if c = 98 then b.length else if b.length = 0 then 1 else 1 + (b.getD 0 0).toNat
/-- That argument. -/
def gv (c : UInt8) (b : List Int) : Av :=
  if c = 105 then vI (sg (n4 b)) else if c = 117 then vI (n4 b) else if c = 115 then vS (tx ((b.drop 1).take (gn c b - 1)))
  else if c = 114 then vR (sg (n4 b)) (sg (n4 (b.drop 4))) (sg (n4 (b.drop 8))) (sg (n4 (b.drop 12))) else vB b

/-- A form. -/
def formR : List UInt8 → Bool
  | [] => true
  | c :: f => (c == 105 || c == 117 || c == 115 || c == 114 || (c == 98 && f.isEmpty)) && formR f
def formB (f : List UInt8) : Bool := formR f && decide (f.length ≤ 8)

/-- Arguments' bytes, behind those that are there; arguments of bytes, behind those that are there (0 none wrong, 2 some bytes left, 3 too few). -/
def pkA : List Int → List UInt8 → List Av → Option (List Int)
  | L, [], _ => some L
  | _, _ :: _, [] => none
  | L, c :: f, v :: l => match put c v with
    | none => none
    | some b => pkA (L ++ b) f l
def unA : List Av → List UInt8 → List Int → List Av × Int
  | X, [], b => if b.length = 0 then (X, 0) else ([], 2)
  | X, c :: f, b => if b.length < gn c b then ([], 3) else unA (X ++ [gv c b]) f (b.drop (gn c b))
/-- How many bytes all arguments of a form have. -/
def fx (c : UInt8) : Option Nat := if c = 105 ∨ c = 117 then some 4 else if c = 114 then some 16 else none
def szA : Nat → List UInt8 → Option Nat
  | n, [] => some n
  | n, c :: f => match fx c with
    | none => none
    | some k => szA (n + k) f

/-- An argument of a letter, nothing beside. -/
def okA (c : UInt8) (v : Av) : Prop :=
  (c = 105 ∧ ∃ n, v = vI n ∧ small n) ∨ (c = 117 ∧ ∃ n, v = vI n ∧ 0 ≤ n ∧ n ≤ 4294967295) ∨ (c = 115 ∧ ∃ s, v = vS s ∧ s.size ≤ 255) ∨
    (c = 114 ∧ ∃ x0 y0 x1 y1, v = vR x0 y0 x1 y1 ∧ small x0 ∧ small y0 ∧ small x1 ∧ small y1) ∨ (c = 98 ∧ ∃ b, v = vB b ∧ b.length ≤ 64)
inductive OkL : List UInt8 → List Av → Prop
  | nil : OkL [] []
  | cons {c : UInt8} {v : Av} {f : List UInt8} {l : List Av} (h : okA c v) (t : OkL f l) : OkL (c :: f) (v :: l)

theorem n4_d4 (n : Int) (t : List Int) : n4 (d4 n ++ t) = n % 4294967296 := by
  unfold n4 d4
  simp only [List.cons_append, List.nil_append, List.getD_cons_zero, List.getD_cons_succ]
  omega
theorem sg_mod {n : Int} (h : small n) : sg (n % 4294967296) = n := by
  obtain ⟨h1, h2⟩ := h
  unfold sg
  split <;> omega
theorem tx_tb (s : ByteArray) : tx (tb s) = s := by
  unfold tx tb
  rw [List.map_map]
  have : ((fun x : Int => UInt8.ofNat x.toNat) ∘ fun c : UInt8 => (c.toNat : Int)) = id := by
    funext c; simp
  rw [this, List.map_id]
theorem put_i {n : Int} (h : small n) : put 105 (vI n) = some (d4 n) := by
  unfold put; rw [if_pos rfl, if_pos ⟨rfl, (smallB_iff n).2 h⟩]; rfl
theorem put_u {n : Int} (h0 : 0 ≤ n) (h1 : n ≤ 4294967295) : put 117 (vI n) = some (d4 n) := by
  unfold put; rw [if_neg (by decide), if_pos rfl, if_pos ⟨rfl, h0, h1⟩]; rfl
theorem put_s {s : ByteArray} (h : s.size ≤ 255) : put 115 (vS s) = some ((s.size : Int) :: tb s) := by
  unfold put; rw [if_neg (by decide), if_neg (by decide), if_pos rfl, if_pos ⟨rfl, h⟩]; rfl
theorem put_r {x0 y0 x1 y1 : Int} (h0 : small x0) (h1 : small y0) (h2 : small x1) (h3 : small y1) : put 114 (vR x0 y0 x1 y1) = some (d4 x0 ++ d4 y0 ++ d4 x1 ++ d4 y1) := by
  unfold put
  rw [if_neg (by decide), if_neg (by decide), if_neg (by decide), if_pos rfl, if_pos ⟨rfl, (smallB_iff _).2 h0, (smallB_iff _).2 h1, (smallB_iff _).2 h2, (smallB_iff _).2 h3⟩]; rfl
theorem put_b {b : List Int} (h : b.length ≤ 4096) : put 98 (vB b) = some b := by
  unfold put
  rw [if_neg (by decide), if_neg (by decide), if_neg (by decide), if_neg (by decide), if_pos rfl, if_pos ⟨rfl, h⟩]; rfl
/-- What an argument's bytes begin with is the argument. -/
theorem get_put {c : UInt8} {v : Av} (h : okA c v) : ∃ b, put c v = some b ∧ b.length ≤ 256 ∧ (c ≠ 98 → 0 < b.length) ∧ (∀ t, (c = 98 → t = []) → gn c (b ++ t) = b.length ∧ gv c (b ++ t) = v) ∧
    (c ≠ 98 → ∀ k, k < b.length → (b.take k).length < gn c (b.take k)) := by
  rcases h with ⟨rfl, n, rfl, h⟩ | ⟨rfl, n, rfl, h0, h1⟩ | ⟨rfl, s, rfl, h⟩ | ⟨rfl, x0, y0, x1, y1, rfl, h0, h1, h2, h3⟩ | ⟨rfl, b, rfl, h⟩
  · refine ⟨_, put_i h, by rw [d4_len]; omega, fun _ => by rw [d4_len]; omega, fun t _ => ⟨rfl, ?_⟩, fun _ k hk => ?_⟩
    · unfold gv; rw [if_pos rfl, n4_d4, sg_mod h]
    · rw [d4_len] at hk
      rw [List.length_take, d4_len]
      show min k 4 < 4; omega
  · refine ⟨_, put_u h0 h1, by rw [d4_len]; omega, fun _ => by rw [d4_len]; omega, fun t _ => ⟨rfl, ?_⟩, fun _ k hk => ?_⟩
    · unfold gv; rw [if_neg (by decide), if_pos rfl, n4_d4]
      congr 1; omega
    · rw [d4_len] at hk
      rw [List.length_take, d4_len]
      show min k 4 < 4; omega
  · have hl : ((s.size : Int) :: tb s).length = s.size + 1 := by simp [tb_len]
    have hg : ∀ t : List Int, gn 115 ((s.size : Int) :: t) = 1 + s.size := by
      intro t
      unfold gn
      rw [if_neg (by decide), if_neg (by decide), if_neg (by decide), if_neg (by simp)]
      simp
    refine ⟨_, put_s h, by rw [hl]; omega, fun _ => by rw [hl]; omega, fun t _ => ⟨?_, ?_⟩, fun _ k hk => ?_⟩
    · rw [List.cons_append, hg, hl]; omega
    · unfold gv
      rw [if_neg (by decide), if_neg (by decide), if_pos rfl, List.cons_append, hg, List.drop_succ_cons, List.drop_zero]
      have e1 : 1 + s.size - 1 = (tb s).length := by rw [tb_len]; omega
      rw [e1, List.take_left, tx_tb]
    · rw [List.length_take, hl]
      rw [hl] at hk
      cases k with
      | zero =>
        simp only [List.take_zero]
        unfold gn
        rw [if_neg (by decide), if_neg (by decide), if_neg (by decide)]; simp
      | succ k =>
        rw [List.take_succ_cons, hg]; omega
  · have hl : (d4 x0 ++ d4 y0 ++ d4 x1 ++ d4 y1).length = 16 := by simp [d4_len]
    refine ⟨_, put_r h0 h1 h2 h3, by rw [hl]; omega, fun _ => by rw [hl]; omega, fun t _ => ⟨?_, ?_⟩, fun _ k hk => ?_⟩
    · rw [hl]; rfl
    · unfold gv
      rw [if_neg (by decide), if_neg (by decide), if_neg (by decide), if_pos rfl]
      have a0 : d4 x0 ++ d4 y0 ++ d4 x1 ++ d4 y1 ++ t = d4 x0 ++ (d4 y0 ++ (d4 x1 ++ (d4 y1 ++ t))) := by simp only [List.append_assoc]
      have a1 : (d4 x0 ++ (d4 y0 ++ (d4 x1 ++ (d4 y1 ++ t)))).drop 4 = d4 y0 ++ (d4 x1 ++ (d4 y1 ++ t)) := List.drop_left (l₁ := d4 x0)
      have a2 : (d4 x0 ++ (d4 y0 ++ (d4 x1 ++ (d4 y1 ++ t)))).drop 8 = d4 x1 ++ (d4 y1 ++ t) := by
        rw [show 8 = 4 + 4 from rfl, ← List.drop_drop, a1]; exact List.drop_left (l₁ := d4 y0)
      have a3 : (d4 x0 ++ (d4 y0 ++ (d4 x1 ++ (d4 y1 ++ t)))).drop 12 = d4 y1 ++ t := by
        rw [show 12 = 8 + 4 from rfl, ← List.drop_drop, a2]; exact List.drop_left (l₁ := d4 x1)
      rw [a0, a1, a2, a3, n4_d4, n4_d4, n4_d4, n4_d4, sg_mod h0, sg_mod h1, sg_mod h2, sg_mod h3]
    · rw [List.length_take, hl]
      rw [hl] at hk
      show min k 16 < 16; omega
  · refine ⟨_, put_b (by omega), by omega, fun h => absurd rfl h, fun t ht => ⟨?_, ?_⟩, fun h => absurd rfl h⟩
    · rw [ht rfl, List.append_nil]; rfl
    · rw [ht rfl, List.append_nil]; rfl

theorem pkA_eq : ∀ (f : List UInt8) (l : List Av) (L : List Int), pkA L f l = (pkA [] f l).map (L ++ ·)
  | [], l, L => by simp [pkA]
  | c :: f, [], L => by simp [pkA]
  | c :: f, v :: l, L => by
    simp only [pkA]
    cases put c v with
    | none => rfl
    | some b =>
      dsimp only
      rw [pkA_eq f l (L ++ b), pkA_eq f l ([] ++ b)]
      cases pkA [] f l <;> simp
theorem formR_b {c : UInt8} {f : List UInt8} (h : formR (c :: f) = true) : (c = 98 → f = []) ∧ formR f = true := by
  unfold formR at h
  rw [Bool.and_eq_true] at h
  refine ⟨?_, h.2⟩
  rintro rfl
  have := h.1
  simpa using this
/-- What is packed is unpacked as it was. -/
theorem round : ∀ (f : List UInt8) (l : List Av) (X : List Av), formR f = true → OkL f l → ∃ b, pkA [] f l = some b ∧ b.length ≤ 256 * f.length ∧ unA X f b = (X ++ l, 0)
  | _, _, X, _, .nil => ⟨[], rfl, Nat.zero_le _, by simp [unA]⟩
  | c :: f, v :: l, X, hf, .cons h t => by
    obtain ⟨hb, hf'⟩ := formR_b hf
    obtain ⟨p, hp, hl, _, hg, _⟩ := get_put h
    obtain ⟨b, h1, h2, h3⟩ := round f l (X ++ [v]) hf' t
    have hbt : c = 98 → b = [] := by
      intro hc
      have := hb hc
      subst this
      cases t
      simp [pkA] at h1
      exact h1
    obtain ⟨g1, g2⟩ := hg b hbt
    refine ⟨p ++ b, ?_, ?_, ?_⟩
    · simp only [pkA, hp]
      rw [pkA_eq, h1]; simp
    · rw [List.length_append, List.length_cons]; omega
    · simp only [unA]
      rw [g1, g2, if_neg (by rw [List.length_append]; omega), List.drop_left, h3]
      simp
theorem pk_inj {f : List UInt8} {x y : List Av} (hf : formR f = true) (hx : OkL f x) (hy : OkL f y) (h : pkA [] f x = pkA [] f y) : x = y := by
  obtain ⟨b, h1, _, h2⟩ := round f x [] hf hx
  obtain ⟨c, h3, _, h4⟩ := round f y [] hf hy
  rw [h1, h3] at h
  cases h
  rw [h2] at h4
  simpa using congrArg Prod.fst h4
def noB (f : List UInt8) : Prop := ∀ c ∈ f, c ≠ 98
theorem more : ∀ (f : List UInt8) (l : List Av) (X : List Av), formR f = true → OkL f l → ∀ (b : List Int), pkA [] f l = some b → ∀ x : Int,
    (noB f → (unA X f (b ++ [x])).2 = 2) ∧ (¬ noB f → (unA X f (b ++ [x])).2 = 0)
  | _, _, X, _, .nil, b, hb, x => by
    simp [pkA] at hb
    subst hb
    exact ⟨fun _ => by simp [unA], fun h => absurd (fun c hc => by simp at hc) h⟩
  | c :: f, v :: l, X, hf, .cons h t, b, hb, x => by
    obtain ⟨hbf, hf'⟩ := formR_b hf
    obtain ⟨p, hp, hl, _, hg, _⟩ := get_put h
    simp only [pkA, hp] at hb
    rw [pkA_eq] at hb
    obtain ⟨q, hq, rfl⟩ := Option.map_eq_some_iff.1 hb
    by_cases hc : c = 98
    · have := hbf hc
      subst this hc
      cases t
      simp [pkA] at hq
      subst hq
      refine ⟨fun h => absurd rfl (h 98 (by simp)), fun _ => ?_⟩
      have e : gn 98 ([] ++ p ++ [] ++ [x]) = ([] ++ p ++ [] ++ [x]).length := rfl
      simp only [unA]
      rw [e, if_neg (by omega), List.drop_length]
      simp
    · obtain ⟨g1, g2⟩ := hg (q ++ [x]) (fun h => absurd h hc)
      have e : [] ++ p ++ q ++ [x] = p ++ (q ++ [x]) := by simp
      have i := more f l (X ++ [v]) hf' t q hq x
      simp only [unA]
      rw [e, g1, g2, if_neg (by rw [List.length_append]; omega), List.drop_left]
      refine ⟨fun h => i.1 fun d hd => h d (by simp [hd]), fun h => i.2 fun h' => h fun d hd => ?_⟩
      rcases List.mem_cons.1 hd with rfl | hd
      · exact hc
      · exact h' d hd
theorem less : ∀ (f : List UInt8) (l : List Av) (X : List Av), noB f → formR f = true → OkL f l → ∀ (b : List Int), pkA [] f l = some b → b ≠ [] → (unA X f (b.take (b.length - 1))).2 = 3
  | _, _, X, _, _, .nil, b, hb, hne => by
    simp [pkA] at hb
    exact absurd hb (by simpa using fun h => hne h)
  | c :: f, v :: l, X, hn, hf, .cons h t, b, hb, hne => by
    obtain ⟨hbf, hf'⟩ := formR_b hf
    have hc : c ≠ 98 := hn c (by simp)
    obtain ⟨p, hp, hl, hpos, hg, hk⟩ := get_put h
    have hpos := hpos hc
    simp only [pkA, hp] at hb
    rw [pkA_eq] at hb
    obtain ⟨q, hq, rfl⟩ := Option.map_eq_some_iff.1 hb
    rw [List.nil_append]
    by_cases hq0 : q = []
    · subst hq0
      simp only [unA, List.append_nil]
      rw [if_pos (hk hc _ (by omega))]
    · have hql : 0 < q.length := by cases q with | nil => exact absurd rfl hq0 | cons a q => simp
      have e : (p ++ q).take ((p ++ q).length - 1) = p ++ q.take (q.length - 1) := by
        rw [List.length_append, show p.length + q.length - 1 = p.length + (q.length - 1) from by omega, List.take_length_add_append]
      obtain ⟨g1, g2⟩ := hg (q.take (q.length - 1)) (fun h => absurd h hc)
      have i := less f l (X ++ [v]) (fun d hd => hn d (by simp [hd])) hf' t q hq hq0
      simp only [unA]
      rw [e, g1, g2, if_neg (by rw [List.length_append]; omega), List.drop_left]
      exact i

theorem szA_eq : ∀ (f : List UInt8) (n : Nat), szA n f = (szA 0 f).map (n + ·)
  | [], n => by simp [szA]
  | c :: f, n => by
    simp only [szA]
    cases fx c with
    | none => rfl
    | some k =>
      dsimp only
      rw [szA_eq f (n + k), szA_eq f (0 + k)]
      cases szA 0 f with
      | none => rfl
      | some m => simp; omega
/-- If all have as many: these have as many. -/
theorem sizes : ∀ (f : List UInt8) (l : List Av) (b : List Int) (n : Nat), OkL f l → pkA [] f l = some b → szA 0 f = some n → b.length = n
  | _, _, b, n, .nil, hb, hn => by
    simp [pkA] at hb
    simp [szA] at hn
    subst hb hn
    rfl
  | c :: f, v :: l, b, n, .cons h t, hb, hn => by
    obtain ⟨p, hp, _⟩ := get_put h
    simp only [pkA, hp] at hb
    rw [pkA_eq] at hb
    obtain ⟨q, hq, rfl⟩ := Option.map_eq_some_iff.1 hb
    simp only [szA] at hn
    cases hx : fx c with
    | none => rw [hx] at hn; cases hn
    | some k =>
      rw [hx] at hn
      dsimp only at hn
      rw [szA_eq] at hn
      obtain ⟨m, hm, rfl⟩ := Option.map_eq_some_iff.1 hn
      have i := sizes f l q m t hq hm
      have hpl : p.length = k := by
        rcases h with ⟨rfl, n, rfl, h⟩ | ⟨rfl, n, rfl, h0, h1⟩ | ⟨rfl, s, rfl, h⟩ | ⟨rfl, x0, y0, x1, y1, rfl, h0, h1, h2, h3⟩ | ⟨rfl, b, rfl, h⟩
        · rw [put_i h] at hp; cases hp; simp [fx] at hx; rw [d4_len]; exact hx
        · rw [put_u h0 h1] at hp; cases hp; simp [fx] at hx; rw [d4_len]; exact hx
        · simp [fx] at hx
        · rw [put_r h0 h1 h2 h3] at hp; cases hp; simp [fx] at hx; simp [d4_len]; exact hx
        · simp [fx] at hx
      simp; omega
theorem fx_none {c : UInt8} (h : c = 105 ∨ c = 117 ∨ c = 115 ∨ c = 114 ∨ c = 98) : fx c = none ↔ c = 115 ∨ c = 98 := by
  rcases h with rfl | rfl | rfl | rfl | rfl <;> simp [fx]

/-- An argument made one of a letter. -/
def goodV (c : UInt8) (v : Av) : Av :=
  if c = 105 then vI (v.n.tmod 2147483648) else if c = 117 then vI (max (v.n.tmod 2147483648) (-(v.n.tmod 2147483648))) else if c = 115 then vS (v.s.extract 0 (min v.s.size 20))
  else if c = 114 then vR (v.x0.tmod 2147483648) (v.y0.tmod 2147483648) (v.x1.tmod 2147483648) (v.y1.tmod 2147483648) else vB (v.b.take 20)
def zeroV : Av := ⟨0, 0, ⟨#[]⟩, 0, 0, 0, 0, []⟩
def goodL : List UInt8 → List Av → List Av
  | [], _ => []
  | c :: f, l => goodV c (l.headD zeroV) :: goodL f l.tail
theorem goodL_len : ∀ (f : List UInt8) (l : List Av), (goodL f l).length = f.length
  | [], _ => rfl
  | c :: f, l => by simp [goodL, goodL_len f l.tail]
theorem goodL_get : ∀ (f : List UInt8) (l : List Av) (i : Nat) (c : UInt8), f[i]? = some c → (goodL f l)[i]? = some (goodV c (l.getD i zeroV))
  | [], _, i, c, h => by simp at h
  | d :: f, l, 0, c, h => by
    simp at h; subst h
    cases l <;> simp [goodL]
  | d :: f, l, i + 1, c, h => by
    have := goodL_get f l.tail i c (by simpa using h)
    cases l with
    | nil => simpa [goodL] using this
    | cons v l => simpa [goodL] using this
theorem tmodS (x : Int) : -2147483647 ≤ x.tmod 2147483648 ∧ x.tmod 2147483648 ≤ 2147483647 := by
  rcases Int.le_total 0 x with hx | hx
  · rw [Int.tmod_eq_emod_of_nonneg hx]
    omega
  · have e : x = -(-x) := by omega
    rw [e, Int.neg_tmod, Int.tmod_eq_emod_of_nonneg (by omega : 0 ≤ -x)]
    omega
theorem goodV_ok {c : UInt8} (h : c = 105 ∨ c = 117 ∨ c = 115 ∨ c = 114 ∨ c = 98) (v : Av) : okA c (goodV c v) := by
  have sm : ∀ x : Int, small (x.tmod 2147483648) := fun x => by have := tmodS x; unfold small; omega
  rcases h with rfl | rfl | rfl | rfl | rfl
  · exact .inl ⟨rfl, _, rfl, sm _⟩
  · have := tmodS v.n
    exact .inr (.inl ⟨rfl, _, rfl, by omega, by omega⟩)
  · refine .inr (.inr (.inl ⟨rfl, _, rfl, ?_⟩))
    rw [ByteArray.size_extract]; omega
  · exact .inr (.inr (.inr (.inl ⟨rfl, _, _, _, _, rfl, sm _, sm _, sm _, sm _⟩)))
  · exact .inr (.inr (.inr (.inr ⟨rfl, _, rfl, by rw [List.length_take]; omega⟩)))
theorem formR_mem : ∀ (f : List UInt8), formR f = true → ∀ c ∈ f, c = 105 ∨ c = 117 ∨ c = 115 ∨ c = 114 ∨ c = 98
  | [], _, c, h => by simp at h
  | d :: f, hf, c, h => by
    rcases List.mem_cons.1 h with rfl | h
    · unfold formR at hf
      rw [Bool.and_eq_true] at hf
      have := hf.1
      simp at this
      rcases this with (((h' | h') | h') | h') | h'
      · exact .inl h'
      · exact .inr (.inl h')
      · exact .inr (.inr (.inl h'))
      · exact .inr (.inr (.inr (.inl h')))
      · exact .inr (.inr (.inr (.inr h'.1)))
    · exact formR_mem f (formR_b hf).2 c h
theorem goodL_ok : ∀ (f : List UInt8) (l : List Av), (∀ c ∈ f, c = 105 ∨ c = 117 ∨ c = 115 ∨ c = 114 ∨ c = 98) → OkL f (goodL f l)
  | [], _, _ => .nil
  | c :: f, l, h => .cons (goodV_ok (h c (by simp)) _) (goodL_ok f l.tail fun d hd => h d (by simp [hd]))

/-- A form made of any text: of its letters. -/
def letK (k : Nat) : UInt8 := if k = 0 then 105 else if k = 1 then 117 else if k = 2 then 115 else if k = 3 then 114 else 98
def lets : List UInt8 → List UInt8
  | [] => []
  | c :: t => letK (if c.toNat % 5 = 4 ∧ t ≠ [] then 3 else c.toNat % 5) :: lets t
theorem lets_len : ∀ t : List UInt8, (lets t).length = t.length
  | [] => rfl
  | c :: t => by simp [lets, lets_len t]
theorem letK_any (k : Nat) : letK k = 105 ∨ letK k = 117 ∨ letK k = 115 ∨ letK k = 114 ∨ letK k = 98 := by
  unfold letK
  split
  · simp
  · split
    · simp
    · split
      · simp
      · split <;> simp
theorem letK_b {k : Nat} (h : k < 5) (hb : letK k = 98) : k = 4 := by
  unfold letK at hb
  split at hb
  · exact absurd hb (by decide)
  · split at hb
    · exact absurd hb (by decide)
    · split at hb
      · exact absurd hb (by decide)
      · split at hb
        · exact absurd hb (by decide)
        · omega
theorem lets_form : ∀ t : List UInt8, formR (lets t) = true
  | [] => rfl
  | c :: t => by
    have i := lets_form t
    have hlt : c.toNat % 5 < 5 := Nat.mod_lt _ (by omega)
    show formR (letK _ :: lets t) = true
    generalize hk : (if c.toNat % 5 = 4 ∧ t ≠ [] then 3 else c.toNat % 5) = k
    unfold formR
    rw [i, Bool.and_true]
    rcases letK_any k with h | h | h | h | h
    · simp [h]
    · simp [h]
    · simp [h]
    · simp [h]
    · have hk5 : k < 5 := by rw [← hk]; split <;> omega
      have hk4 := letK_b hk5 h
      have : t = [] := by
        by_cases ht : t = []
        · exact ht
        · rw [hk4] at hk
          split at hk
          · omega
          · rename_i hn; exact absurd ⟨hk, ht⟩ hn
      subst this
      simp [h, lets]
theorem lets_get : ∀ (t : List UInt8) (i : Nat) (c : UInt8), t[i]? = some c → (lets t)[i]? = some (letK (if c.toNat % 5 = 4 ∧ i + 1 < t.length then 3 else c.toNat % 5))
  | [], i, c, h => by simp at h
  | d :: t, 0, c, h => by
    simp at h; subst h
    have : (t ≠ []) ↔ 0 < t.length := by cases t <;> simp
    simp [lets, this]
  | d :: t, i + 1, c, h => by
    have := lets_get t i c (by simpa using h)
    simpa [lets] using this

end Go.Proofs.YthkbenhlhldglaaDoor
