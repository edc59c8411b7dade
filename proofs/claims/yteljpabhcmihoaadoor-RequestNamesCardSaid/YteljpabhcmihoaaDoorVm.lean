/-
  What is proved: plain mathematics of titles: widths, what may be, what is clean, cut, padded, alike. No program, no conditions.
-/
import Derived.Test.YteljpabhcmihoaaDoorVe
namespace Go.Proofs.YteljpabhcmihoaaDoor
open Go.Lib (encodeRune)

/-- The signs that have come. -/
def gF (l : List UInt8) (ks : List (Fin (sgs l).length)) : List Sg := ks.map (fun k => (sgs l)[k.1]'k.2)
theorem gF_snoc (l : List UInt8) (ks : List (Fin (sgs l).length)) (k : Fin (sgs l).length) : gF l (ks ++ [k]) = gF l ks ++ [(sgs l)[k.1]'k.2] := by simp [gF]
theorem gF_len (l : List UInt8) (ks : List (Fin (sgs l).length)) : (gF l ks).length = ks.length := by simp [gF]
theorem range_map {α : Type} (L : List α) : ∀ m, (List.range m).filterMap (fun i => L[i]?) = L.take m
  | 0 => by simp
  | m + 1 => by
    rw [List.range_succ, List.filterMap_append, range_map L m, List.take_add_one]
    cases h : L[m]? <;> simp [h]
theorem gF_map (l : List UInt8) (ks : List (Fin (sgs l).length)) : gF l ks = (ks.map (·.1)).filterMap (fun i => (sgs l)[i]?) := by
  rw [List.filterMap_map]
  unfold gF
  induction ks with
  | nil => rfl
  | cons k ks ih =>
    rw [List.map_cons, ih, List.filterMap_cons]
    simp
theorem gF_pre {l : List UInt8} {ks : List (Fin (sgs l).length)} (h : ks.map (·.1) <+: List.range (sgs l).length) : gF l ks = (sgs l).take ks.length := by
  have h1 := List.prefix_iff_eq_take.1 h
  rw [List.length_map, List.take_range] at h1
  have h2 := h.length_le
  rw [List.length_map, List.length_range] at h2
  rw [gF_map, h1, range_map, Nat.min_eq_left h2]
theorem gF_all {l : List UInt8} {ks : List (Fin (sgs l).length)} (h : ks.map (·.1) = List.range (sgs l).length) : gF l ks = sgs l := by
  rw [gF_map, h, range_map, List.take_length]
theorem gF_len_all {l : List UInt8} {ks : List (Fin (sgs l).length)} (h : ks.map (·.1) = List.range (sgs l).length) : ks.length = (sgs l).length := by
  have := congrArg List.length h; simpa using this

/-- How wide signs are. -/
def wid (X : List Sg) : Int := (X.map fun x => widZ x.r).sum
theorem wid_nil : wid [] = 0 := rfl
theorem wid_cons (x : Sg) (X : List Sg) : wid (x :: X) = widZ x.r + wid X := by simp [wid]
theorem wid_app (X Y : List Sg) : wid (X ++ Y) = wid X + wid Y := by simp [wid]
theorem wid_snoc (X : List Sg) (x : Sg) : wid (X ++ [x]) = wid X + widZ x.r := by simp [wid]
theorem wid_bd : ∀ X : List Sg, 0 ≤ wid X ∧ wid X ≤ 2 * (X.length : Int)
  | [] => by simp [wid]
  | x :: X => by
    have h1 := wid_bd X
    have h2 := widZ_bd x.r
    rw [wid_cons, List.length_cons]
    omega

/-- May signs be a title's? -/
def okS (x : Sg) : Bool := !(oddB x.r) && !x.bad
def mayX (X : List Sg) : Bool := decide (X.length ≤ 64) && X.all okS
theorem mayX_pre {A B : List Sg} (h : A <+: B) (hf : mayX A = false) : mayX B = false := by
  obtain ⟨t, rfl⟩ := h
  unfold mayX at *
  rw [List.all_append, List.length_append]
  rcases Bool.and_eq_false_iff.1 hf with h1 | h1
  · have h1 := of_decide_eq_false h1
    rw [decide_eq_false (by omega)]; rfl
  · rw [h1]; simp
theorem mayX_step {X : List Sg} {x : Sg} (h : mayX X = true) (hl : X.length + 1 ≤ 64) (hx : okS x = true) : mayX (X ++ [x]) = true := by
  unfold mayX at *
  rw [List.all_append, List.length_append]
  have := (Bool.and_eq_true_iff.1 h).2
  rw [this, decide_eq_true (by simp; omega)]
  simp [hx]
theorem mayX_long {X : List Sg} (hl : 64 < X.length) : mayX X = false := by
  unfold mayX
  rw [decide_eq_false (by omega)]; rfl
theorem mayX_bad {X : List Sg} {x : Sg} (hx : okS x = false) : mayX (X ++ [x]) = false := by
  unfold mayX
  rw [List.all_append]
  simp [hx]
theorem mayX_len {X : List Sg} (h : mayX X = true) : X.length ≤ 64 := of_decide_eq_true (Bool.and_eq_true_iff.1 h).1

/-- What is written for a sign. -/
def clR (x : Sg) : Int := if (oddB x.r || x.bad) = true then 63 else x.r
def clN (X : List Sg) : List Int := (X.take 64).map clR
def clX (X : List Sg) : List UInt8 := encs (clN X)
def piece (x : Sg) : List UInt8 := if (oddB x.r || x.bad) = true then [63] else x.bs
theorem clR_vr {x : Sg} (h : x.ok) : Vr (clR x) := by
  unfold clR
  split
  · exact .inl ⟨by decide, by decide⟩
  · exact h.vr
theorem clR_even (x : Sg) : oddB (clR x) = false := by
  unfold clR
  split
  · decide
  · rename_i h
    simp at h
    exact h.1
theorem clR_piece {x : Sg} (h : x.ok) : encodeRune (clR x) = piece x := by
  unfold clR piece
  split
  · decide
  · rename_i h2
    rcases h with ⟨hb, _⟩ | ⟨c, _, rfl⟩
    · simp [hb] at h2
    · rfl
theorem encs_piece : ∀ X : List Sg, (∀ x ∈ X, x.ok) → encs (X.map clR) = X.flatMap piece
  | [], _ => rfl
  | x :: X, h => by
    rw [List.map_cons, encs_cons, clR_piece (h x (by simp)), encs_piece X (fun y hy => h y (by simp [hy]))]
    rfl
theorem clX_piece {X : List Sg} (h : ∀ x ∈ X, x.ok) : clX X = (X.take 64).flatMap piece := encs_piece _ (fun x hx => h x (List.mem_of_mem_take hx))
theorem clN_vr {X : List Sg} (h : ∀ x ∈ X, x.ok) : ∀ c ∈ clN X, Vr c := by
  intro c hc
  unfold clN at hc
  rw [List.mem_map] at hc
  obtain ⟨x, hx, rfl⟩ := hc
  exact clR_vr (h x (List.mem_of_mem_take hx))
theorem clN_even (X : List Sg) : ∀ c ∈ clN X, oddB c = false := by
  intro c hc
  unfold clN at hc
  rw [List.mem_map] at hc
  obtain ⟨x, _, rfl⟩ := hc
  exact clR_even x
theorem clN_len (X : List Sg) : (clN X).length ≤ 64 ∧ (clN X).length ≤ X.length := by unfold clN; simp; omega
theorem clX_sgs {X : List Sg} (h : ∀ x ∈ X, x.ok) : sgs (clX X) = (clN X).map good := sgs_encs0 _ (clN_vr h)
theorem good_ok {cs : List Int} (h : ∀ c ∈ cs, Vr c) : ∀ x ∈ cs.map good, x.ok := by
  intro x hx
  rw [List.mem_map] at hx
  obtain ⟨c, hc, rfl⟩ := hx
  exact .inr ⟨c, h c hc, rfl⟩
theorem mayX_good {cs : List Int} (hl : cs.length ≤ 64) (he : ∀ c ∈ cs, oddB c = false) : mayX (cs.map good) = true := by
  unfold mayX
  rw [List.length_map, decide_eq_true hl, Bool.true_and, List.all_map, List.all_eq_true]
  intro c hc
  simp [okS, good, he c hc]
theorem clN_good {cs : List Int} (hl : cs.length ≤ 64) (he : ∀ c ∈ cs, oddB c = false) : clN (cs.map good) = cs := by
  unfold clN
  rw [List.take_of_length_le (by simpa using hl), List.map_map]
  have : ∀ c ∈ cs, (clR ∘ good) c = c := fun c hc => by simp [clR, good, he c hc]
  rw [List.map_congr_left this, List.map_id']
/-- A clean text. -/
theorem clX_may {X : List Sg} (h : ∀ x ∈ X, x.ok) : mayX (sgs (clX X)) = true := by rw [clX_sgs h]; exact mayX_good (clN_len X).1 (clN_even X)
theorem clX_again {X : List Sg} (h : ∀ x ∈ X, x.ok) : clX (sgs (clX X)) = clX X := by
  rw [clX_sgs h]
  show encs (clN _) = encs _
  rw [clN_good (clN_len X).1 (clN_even X)]
theorem piece_len {x : Sg} (h : x.ok) : (piece x).length ≤ 4 := by unfold piece; split; simp; exact h.len.2
theorem clX_len {X : List Sg} (h : ∀ x ∈ X, x.ok) : (clX X).length ≤ 256 := by
  rw [clX_piece h]
  have : ∀ Y : List Sg, (∀ x ∈ Y, x.ok) → (Y.flatMap piece).length ≤ 4 * Y.length := fun Y => by
    induction Y with
    | nil => intro _; simp
    | cons y Y ih =>
      intro hy
      have h1 := ih (fun x hx => hy x (by simp [hx]))
      have h2 := piece_len (hy y (by simp))
      rw [List.flatMap_cons, List.length_append, List.length_cons]
      omega
  have h1 := this (X.take 64) (fun x hx => h x (List.mem_of_mem_take hx))
  rw [List.length_take] at h1
  omega

/-- The signs that fit. -/
def cutS (n : Int) : Int → List Sg → List Sg
  | _, [] => []
  | w, x :: X => if n < w + widZ x.r then [] else x :: cutS n (w + widZ x.r) X
def Fit (n : Int) (X : List Sg) : Prop := X = [] ∨ wid X ≤ n
theorem cutS_go (n : Int) : ∀ (P : List Sg) (w : Int) (R : List Sg), (P = [] ∨ w + wid P ≤ n) → cutS n w (P ++ R) = P ++ cutS n (w + wid P) R
  | [], w, R, _ => by simp [wid_nil]
  | x :: P, w, R, h => by
    have h' : w + wid (x :: P) ≤ n := by rcases h with h | h; cases h; exact h
    rw [wid_cons] at h'
    have h1 := (wid_bd P).1
    show (if n < w + widZ x.r then [] else x :: cutS n (w + widZ x.r) (P ++ R)) = _
    rw [if_neg (by omega), cutS_go n P (w + widZ x.r) R (by right; omega), wid_cons, Int.add_assoc]
    rfl
theorem cutS_all {n : Int} {X : List Sg} (h : Fit n X) : cutS n 0 X = X := by
  have := cutS_go n X 0 [] (by rcases h with h | h; exact .inl h; exact .inr (by omega))
  simpa [cutS] using this
theorem cutS_stop {n : Int} {P R : List Sg} {x : Sg} (h : Fit n P) (hx : n < wid P + widZ x.r) : cutS n 0 (P ++ x :: R) = P := by
  have := cutS_go n P 0 (x :: R) (by rcases h with h | h; exact .inl h; exact .inr (by omega))
  rw [this]
  show P ++ (if n < 0 + wid P + widZ x.r then [] else _) = P
  rw [if_pos (by omega), List.append_nil]
theorem cutS_pre (n : Int) : ∀ (X : List Sg) (w : Int), cutS n w X <+: X
  | [], _ => List.prefix_refl _
  | x :: X, w => by
    unfold cutS
    split
    · exact List.nil_prefix
    · exact (List.cons_prefix_cons.2 ⟨rfl, cutS_pre n X _⟩)
theorem cutS_fit (n : Int) : ∀ (X : List Sg) (w : Int), cutS n w X = [] ∨ w + wid (cutS n w X) ≤ n
  | [], _ => .inl rfl
  | x :: X, w => by
    unfold cutS
    split
    · exact .inl rfl
    · right
      rw [wid_cons]
      rcases cutS_fit n X (w + widZ x.r) with h | h
      · rw [h, wid_nil]; omega
      · omega
theorem cutS_wid {n : Int} (h : 0 ≤ n) (X : List Sg) : wid (cutS n 0 X) ≤ n := by
  rcases cutS_fit n X 0 with h1 | h1
  · rw [h1, wid_nil]; exact h
  · omega
theorem cutS_neg {n : Int} (h : n < 0) (X : List Sg) : cutS n 0 X = [] := by
  cases X with
  | nil => rfl
  | cons x X =>
    unfold cutS
    have := widZ_bd x.r
    rw [if_pos (by omega)]
theorem cutS_begin {X Y : List Sg} : X <+: cutS (wid X) 0 (X ++ Y) := by
  rw [cutS_go (wid X) X 0 Y (.inr (by omega))]
  exact List.prefix_append _ _

/-- What is read alone is read so ahead of others, where these don't go on with it. -/
theorem sg1_more {x : Sg} {l m : List UInt8} (h : sg1 (x.bs ++ l) = x) (hne : x.bs ++ l ≠ []) (hm : ∀ c t, Vr c → x.bs ++ m = encodeRune c ++ t → ∃ t', x.bs ++ l = encodeRune c ++ t') : sg1 (x.bs ++ m) = x ∧ (dcL (x.bs ++ m)).2 = x.bs.length := by
  have hok : x.ok := h ▸ sg1_ok hne
  rcases hok with ⟨hb, hr, b, hbs, _⟩ | ⟨c, hc, rfl⟩
  · have hxl : x.bs ++ m ≠ [] := by rw [hbs]; simp
    cases hbm : isBad (dcL (x.bs ++ m))
    · exfalso
      obtain ⟨h1, h2⟩ := enc_dc hxl hbm
      obtain ⟨t', ht'⟩ := hm _ ((x.bs ++ m).drop (dcL (x.bs ++ m)).2) h1 (by rw [← h2, List.take_append_drop])
      have h3 := sg1_enc h1 t'
      rw [← ht', h] at h3
      rw [h3] at hb
      cases hb
    · have hbm' : (dcL (x.bs ++ m)).1 = 65533 ∧ (dcL (x.bs ++ m)).2 = 1 := by simpa [isBad] using hbm
      refine ⟨?_, by rw [hbm'.2, hbs]; rfl⟩
      obtain ⟨xb, xr, xbad⟩ := x
      dsimp only at *
      unfold sg1
      rw [hbm, hbm'.1, hbm'.2, hb, hr, hbs]
      rfl
  · exact ⟨sg1_enc hc m, by show (dcL (encodeRune c ++ m)).2 = _; rw [dc_enc hc]; rfl⟩
theorem sgs_more {x : Sg} {l m : List UInt8} (h : sg1 (x.bs ++ l) = x) (hne : x.bs ++ l ≠ []) (hm : ∀ c t, Vr c → x.bs ++ m = encodeRune c ++ t → ∃ t', x.bs ++ l = encodeRune c ++ t') (hxm : x.bs ++ m ≠ []) : sgs (x.bs ++ m) = x :: sgs m := by
  obtain ⟨h1, h2⟩ := sg1_more h hne hm
  rw [sgs_step hxm, h1, h2, List.drop_left]
/-- A text's beginning of whole signs. -/
theorem sgs_begin : ∀ (n : Nat) (l : List UInt8) (k : Nat), l.length ≤ n → sgs (glue ((sgs l).take k)) = (sgs l).take k
  | _, l, 0, _ => by simp [glue, sgs_nil]
  | 0, l, k + 1, h => by
    have : l = [] := List.eq_nil_of_length_eq_zero (by omega)
    subst this; rfl
  | n + 1, l, k + 1, h => by
    by_cases hl : l = []
    · subst hl; rfl
    · have hw := dcL_w hl
      have hbs : (sg1 l).bs ++ l.drop (dcL l).2 = l := List.take_append_drop _ _
      rw [sgs_step hl, List.take_succ_cons]
      show sgs ((sg1 l).bs ++ glue ((sgs (l.drop (dcL l).2)).take k)) = _
      have ih := sgs_begin n (l.drop (dcL l).2) k (by simp; omega)
      have hlen : (sg1 l).bs.length = (dcL l).2 := by unfold sg1; dsimp only; rw [List.length_take]; omega
      rw [sgs_more (l := l.drop (dcL l).2) (by rw [hbs]) (by rw [hbs]; exact hl) ?_ ?_, ih]
      · intro c t _ e
        have hp := pos_parts (l.drop (dcL l).2) k
        refine ⟨t ++ glue ((sgs (l.drop (dcL l).2)).drop k), ?_⟩
        rw [← List.append_assoc, ← e, List.append_assoc, hp]
      · intro e
        have := congrArg List.length e
        rw [List.length_append, hlen, List.length_nil] at this
        omega
theorem sgs_cut (n : Int) (l : List UInt8) : sgs (glue (cutS n 0 (sgs l))) = cutS n 0 (sgs l) := by
  have h := List.prefix_iff_eq_take.1 (cutS_pre n (sgs l) 0)
  rw [h]
  exact sgs_begin _ l _ (Nat.le_refl _)
theorem enc_high {c : Int} (h : Vr c) (hc : 128 ≤ c) : ∀ b ∈ encodeRune c, 128 ≤ b.toNat := by
  intro b hb
  unfold encodeRune at hb
  rw [List.mem_map] at hb
  obtain ⟨y, hy, rfl⟩ := hb
  have hi := h.int
  have hyb := Lib.encodeRuneZ_byte c y hy
  rw [u8 y hyb.1 hyb.2]
  unfold Lib.encodeRuneZ at hy
  repeat' split at hy
  all_goals simp at hy
  all_goals omega
theorem enc_low {c : Int} (h : Vr c) (hc : c < 128) : encodeRune c = [c.toNat.toUInt8] := by
  unfold encodeRune
  rw [Lib.encodeRuneZ_one h.int.1 (by omega)]
  rfl
theorem enc_head {c : Int} (h : Vr c) {b : UInt8} {t u : List UInt8} (e : b :: t = encodeRune c ++ u) (hb : 128 ≤ b.toNat) : 128 ≤ c := by
  rcases Int.lt_or_le c 128 with h1 | h1
  · rw [enc_low h h1] at e
    injection e with e1 _
    rw [e1, u8 c h.int.1 (by omega)] at hb
    omega
  · exact h1
/-- Signs ahead of one byte below 128. -/
theorem sgs_ascii : ∀ (n : Nat) (l m : List UInt8) (b : UInt8), l.length ≤ n → b.toNat < 128 → sgs (l ++ b :: m) = sgs l ++ sgs (b :: m)
  | 0, l, m, b, h, _ => by
    have : l = [] := List.eq_nil_of_length_eq_zero (by omega)
    subst this; rfl
  | n + 1, l, m, b, h, hb => by
    by_cases hl : l = []
    · subst hl; rfl
    · have hw := dcL_w hl
      have hbs : (sg1 l).bs ++ l.drop (dcL l).2 = l := List.take_append_drop _ _
      have ih := sgs_ascii n (l.drop (dcL l).2) m b (by simp; omega) hb
      have hlen : (sg1 l).bs.length = (dcL l).2 := by unfold sg1; dsimp only; rw [List.length_take]; omega
      rw [sgs_step hl]
      conv => lhs; rw [← hbs, List.append_assoc]
      rw [sgs_more (l := l.drop (dcL l).2) (by rw [hbs]) (by rw [hbs]; exact hl) ?_ ?_, ih]
      · rfl
      · intro c t hc e
        rw [hbs]
        rcases sg1_ok hl with ⟨_, _, a, ha, ha2⟩ | ⟨c2, hc2, e2⟩
        · rw [← List.append_assoc, hbs] at e
          have hlc : l = a :: l.drop (dcL l).2 := by
            have h9 := hbs
            rw [ha] at h9
            exact h9.symm
          have hc128 : 128 ≤ c := by
            rw [hlc] at e
            exact enc_head hc e ha2
          rcases Nat.lt_or_ge l.length (encodeRune c).length with h1 | h1
          · exfalso
            have h2 : (encodeRune c)[l.length]? = some b := by
              have : (l ++ b :: m)[l.length]? = (encodeRune c ++ t)[l.length]? := by rw [e]
              rw [List.getElem?_append_right (Nat.le_refl _), Nat.sub_self, List.getElem?_append_left h1] at this
              exact this.symm
            have := enc_high hc hc128 b (List.mem_of_getElem? h2)
            omega
          · refine ⟨l.drop (encodeRune c).length, ?_⟩
            have h2 : l.take (encodeRune c).length = encodeRune c := by
              have := congrArg (List.take (encodeRune c).length) e
              rw [List.take_append_of_le_length h1, List.take_left] at this
              exact this
            conv => lhs; rw [← List.take_append_drop (encodeRune c).length l, h2]
        · refine ⟨l.drop (dcL l).2, ?_⟩
          have e3 : sg1 (encodeRune c ++ t) = good c := sg1_enc hc t
          have e4 : sg1 (encodeRune c2 ++ (l.drop (dcL l).2 ++ b :: m)) = good c2 := sg1_enc hc2 _
          have hgb : (sg1 l).bs = encodeRune c2 := by rw [e2]; rfl
          rw [← e, hgb, e4] at e3
          have hcc : c2 = c := by injection e3
          rw [← hcc, ← hgb, hbs]
      · intro e
        have := congrArg List.length e
        rw [List.length_append, hlen, List.length_nil] at this
        omega
theorem good32 : good 32 = ⟨[32], 32, false⟩ := by unfold good; rw [show encodeRune 32 = [32] by decide]
theorem sgs_blanks : ∀ m : Nat, sgs (List.replicate m 32) = List.replicate m (good 32)
  | 0 => rfl
  | m + 1 => by
    have e : encodeRune 32 = [32] := by decide
    have := sgs_enc (c := 32) (.inl (by omega)) (List.replicate m 32)
    rw [e] at this
    rw [List.replicate_succ, List.replicate_succ, ← sgs_blanks m, ← this]
    rfl
theorem wid_blanks (m : Nat) : wid (List.replicate m (good 32)) = m := by
  induction m with
  | zero => rfl
  | succ m ih =>
    rw [List.replicate_succ, wid_cons, ih]
    have : widZ (good 32).r = 1 := by decide
    rw [this]; omega
/-- What is padded. -/
def padX (n : Int) (l : List UInt8) : List UInt8 := glue (cutS n 0 (sgs l)) ++ List.replicate (max (n - wid (cutS n 0 (sgs l))) 0).toNat 32
theorem padX_sgs (n : Int) (l : List UInt8) : sgs (padX n l) = cutS n 0 (sgs l) ++ List.replicate (max (n - wid (cutS n 0 (sgs l))) 0).toNat (good 32) := by
  unfold padX
  cases hm : (max (n - wid (cutS n 0 (sgs l))) 0).toNat with
  | zero => simp [sgs_cut]
  | succ m =>
    rw [List.replicate_succ, sgs_ascii _ _ _ _ (Nat.le_refl _) (by decide), sgs_cut, ← List.replicate_succ, sgs_blanks]
theorem padX_wid {n : Int} (h : 0 ≤ n) (l : List UInt8) : wid (sgs (padX n l)) = n := by
  rw [padX_sgs, wid_app, wid_blanks]
  have := cutS_wid h (sgs l)
  omega

end Go.Proofs.YteljpabhcmihoaaDoor
