/-
  What is proved: small functions of the document's package of titles: tail, one, Odd, Wide, low, Few; and Around, begins. No conditions but bounds. plain mathematics of titles: widths, what may be, what is clean, cut, padded, alike. No program, no conditions. what Count and Width of package title hand back. small facts on a builder and what is laid beside it. No conditions. what May of package title hands back.
-/
import Derived.Test.YthkbenhlhldglaaDoorMg
import Derived.IntWalk
namespace Go.Proofs.YthkbenhlhldglaaDoor
open Go.RowKit Go.Sort Go.Shelf
attribute [local go_sem] Oper.semAt_some

/-- The six bits of a byte of 128 to 191 at a place; -1: there is none. -/
def tlZ (s : ByteArray) (p : Nat) : Int := if p < s.size ∧ 128 ≤ nb s.data.toList p ∧ nb s.data.toList p ≤ 191 then (nb s.data.toList p : Int) - 128 else -1
theorem tlZ_bd (s : ByteArray) (p : Nat) : -1 ≤ tlZ s p ∧ tlZ s p ≤ 63 := by unfold tlZ; split <;> omega
theorem nb_get (s : ByteArray) (p : Nat) (h : p < s.size) : (s[p]'h).toNat = nb s.data.toList p := by
  unfold nb
  rw [List.getD_eq_getElem?_getD, Array.getElem?_toList, Array.getElem?_eq_getElem (show p < s.data.size from h)]
  rfl
set_option maxRecDepth 100000 in
theorem tail1 (s : ByteArray) (p : Nat) (_ : s.size ≤ 1000000) (w : World) : Calls Tryd.prog 112 #[.string s, .int .i64 p] w fun e w' => e = .returned (.int .i64 (tlZ s p)) ∧ w = w' := by
  by_cases h : p < s.size
  · have hb := nb_get s p h
    have hv : tlZ s p = if 128 ≤ nb s.data.toList p ∧ nb s.data.toList p ≤ 191 then (nb s.data.toList p : Int) - 128 else -1 := by unfold tlZ; simp [h]
    rw [hv, ← hb]
    have h0 : (s[p]'h).toNat < 256 := (s[p]'h).toNat_lt
    clear hb hv
    by_cases h1 : (s[p]'h).toNat < 128
    · rw [if_neg (by omega)]
      have q : ((s[p]'h).toNat : Int) < 128 := by omega
      go_enter Tryd.func112, Tryd.ntmps112
      go_wp2
      go_ret
      exact ⟨rfl, rfl⟩
    · have q : decide (((s[p]'h).toNat : Int) < 128) = false := by simp; omega
      by_cases h2 : 191 < (s[p]'h).toNat
      · rw [if_neg (by omega)]
        have q2 : 191 < ((s[p]'h).toNat : Int) := by omega
        go_enter Tryd.func112, Tryd.ntmps112
        go_wp2
        go_ret
        exact ⟨rfl, rfl⟩
      · rw [if_pos (by omega)]
        have q2 : decide (191 < ((s[p]'h).toNat : Int)) = false := by simp; omega
        have q3 : 128 ≤ ((s[p]'h).toNat : Int) := by omega
        go_enter Tryd.func112, Tryd.ntmps112
        go_wp2
        go_ret
        exact ⟨rfl, rfl⟩
  · rw [show tlZ s p = -1 by unfold tlZ; simp [h]]
    have q : (s.size : Int) ≤ p := by omega
    go_enter Tryd.func112, Tryd.ntmps112
    go_wp2
    go_ret
    exact ⟨rfl, rfl⟩

theorem rodd1 (r : Int) (w : World) : Calls Tryd.prog 69 #[.int .i64 r] w fun e w' => e = .returned (.bool (oddB r)) ∧ w = w' := by
  by_cases h : r < 32
  · rw [show oddB r = true from decide_eq_true (.inl h)]
    go_enter Tryd.func69, Tryd.ntmps69
    go_wp2
    go_ret
    exact ⟨rfl, rfl⟩
  · by_cases k : r = 127
    · subst k
      go_enter Tryd.func69, Tryd.ntmps69
      go_wp2
      go_ret
      exact ⟨rfl, rfl⟩
    · have q : (r == 127) = false := by simpa using k
      have q2 : decide (r < 32) = false := decide_eq_false h
      by_cases h3 : 8232 ≤ r
      · by_cases h4 : r ≤ 8238
        · rw [show oddB r = true from decide_eq_true (.inr (.inr ⟨h3, h4⟩))]
          go_enter Tryd.func69, Tryd.ntmps69
          go_wp2
          go_ret
          exact ⟨rfl, rfl⟩
        · rw [show oddB r = false from decide_eq_false (by omega)]
          have q3 : decide (r ≤ 8238) = false := decide_eq_false h4
          go_enter Tryd.func69, Tryd.ntmps69
          go_wp2
          go_ret
          exact ⟨rfl, rfl⟩
      · rw [show oddB r = false from decide_eq_false (by omega)]
        have q3 : decide (8232 ≤ r) = false := decide_eq_false h3
        go_enter Tryd.func69, Tryd.ntmps69
        go_wp2
        go_ret
        exact ⟨rfl, rfl⟩

/-- A sign, small. -/
def lowZ (r : Int) : Int := if btwB r 65 90 = true then r + 32 else r
/-- Texts as lists. -/
def bs (L : List UInt8) : ByteArray := ⟨L.toArray⟩
theorem bs_list (L : List UInt8) : (bs L).data.toList = L := by simp [bs]
theorem list_bs (s : ByteArray) : bs s.data.toList = s := by simp [bs]
theorem bs_size (L : List UInt8) : (bs L).size = L.length := by simp [bs, ByteArray.size]
theorem size_list (s : ByteArray) : s.data.toList.length = s.size := Array.length_toList
theorem bs_app (A B : List UInt8) : bs A ++ bs B = bs (A ++ B) := by
  apply ByteArray.ext
  simp [bs]
theorem bs_extract (L : List UInt8) (a e : Nat) : (bs L).extract a e = bs ((L.take e).drop a) := by
  rw [← list_bs ((bs L).extract a e), extract_list, bs_list]
theorem bs_inj {A B : List UInt8} (h : bs A = bs B) : A = B := by rw [← bs_list A, h, bs_list]
theorem few1 (s : ByteArray) (_ : s.size ≤ 9223372036854775807) (n : Nat) (_ : n ≤ 1000000) (w : World) : Calls Tryd.prog 47 #[.string s, .int .i64 n] w fun e w' => e = .returned (.string (bs (s.data.toList.take n))) ∧ w = w' := by
  by_cases h : n < s.size
  · have q : (n : Int) < s.size := by omega
    have q2 : (n : Int) ≤ s.size := by omega
    have e : bs (s.data.toList.take n) = s.extract 0 n := by
      rw [← list_bs (s.extract 0 n), extract_list]; rfl
    rw [e]
    go_enter Tryd.func47, Tryd.ntmps47
    go_wp2
    go_ret
    exact ⟨rfl, rfl⟩
  · have q : decide ((n : Int) < s.size) = false := by simp; omega
    have e : bs (s.data.toList.take n) = s := by
      rw [List.take_of_length_le (by rw [size_list]; omega), list_bs]
    rw [e]
    go_enter Tryd.func47, Tryd.ntmps47
    go_wp2
    go_ret
    exact ⟨rfl, rfl⟩

end Go.Proofs.YthkbenhlhldglaaDoor
namespace Go.Proofs.YthkbenhlhldglaaDoor
open Go.Lib (encodeRune)

/-- The signs that have come. -/
def gF (l : List UInt8) (ks : List (Fin (sgs l).length)) : List Sg := ks.map (fun k => (sgs l)[k.1]'k.2)
theorem gF_snoc (l : List UInt8) (ks : List (Fin (sgs l).length)) (k : Fin (sgs l).length) : gF l (ks ++ [k]) = gF l ks ++ [(sgs l)[k.1]'k.2] := by simp [gF]
theorem gF_len (l : List UInt8) (ks : List (Fin (sgs l).length)) : (gF l ks).length = ks.length := by simp [gF]
theorem range_map {α : Type} (L : List α) : ∀ m, (List.range m).filterMap (fun i => L[i]?) = L.take m
  | 0 => by simp
  | m + 1 => by
    rw [List.range_succ, List.filterMap_append, range_map L m, List.take_add_one]
    cases h : L[m]? <;> simp [h]
theorem gF_map (l : List UInt8) (ks : List (Fin (sgs l).length)) : gF l ks = (ks.map (·.1)).filterMap (fun i => (sgs l)[i]?) := by
  rw [List.filterMap_map]
  unfold gF
  induction ks with
  | nil => rfl
  | cons k ks ih =>
    rw [List.map_cons, ih, List.filterMap_cons]
    simp
theorem gF_pre {l : List UInt8} {ks : List (Fin (sgs l).length)} (h : ks.map (·.1) <+: List.range (sgs l).length) : gF l ks = (sgs l).take ks.length := by
  have h1 := List.prefix_iff_eq_take.1 h
  rw [List.length_map, List.take_range] at h1
  have h2 := h.length_le
  rw [List.length_map, List.length_range] at h2
  rw [gF_map, h1, range_map, Nat.min_eq_left h2]
theorem gF_all {l : List UInt8} {ks : List (Fin (sgs l).length)} (h : ks.map (·.1) = List.range (sgs l).length) : gF l ks = sgs l := by
  rw [gF_map, h, range_map, List.take_length]
theorem gF_len_all {l : List UInt8} {ks : List (Fin (sgs l).length)} (h : ks.map (·.1) = List.range (sgs l).length) : ks.length = (sgs l).length := by
  have := congrArg List.length h; simpa using this

/-- How wide signs are. -/
def wid (X : List Sg) : Int := (X.map fun x => widZ x.r).sum
theorem wid_nil : wid [] = 0 := rfl
theorem wid_cons (x : Sg) (X : List Sg) : wid (x :: X) = widZ x.r + wid X := by simp [wid]
theorem wid_app (X Y : List Sg) : wid (X ++ Y) = wid X + wid Y := by simp [wid]
theorem wid_snoc (X : List Sg) (x : Sg) : wid (X ++ [x]) = wid X + widZ x.r := by simp [wid]
theorem wid_bd : ∀ X : List Sg, 0 ≤ wid X ∧ wid X ≤ 2 * (X.length : Int)
  | [] => by simp [wid]
  | x :: X => by
    have h1 := wid_bd X
    have h2 := widZ_bd x.r
    rw [wid_cons, List.length_cons]
    omega

/-- May signs be a title's? -/
def okS (x : Sg) : Bool := !(oddB x.r) && !x.bad
def mayX (X : List Sg) : Bool := decide (X.length ≤ 64) && X.all okS
theorem mayX_pre {A B : List Sg} (h : A <+: B) (hf : mayX A = false) : mayX B = false := by
  obtain ⟨t, rfl⟩ := h
  unfold mayX at *
  rw [List.all_append, List.length_append]
  rcases Bool.and_eq_false_iff.1 hf with h1 | h1
  · have h1 := of_decide_eq_false h1
    rw [decide_eq_false (by omega)]; rfl
  · rw [h1]; simp
theorem mayX_step {X : List Sg} {x : Sg} (h : mayX X = true) (hl : X.length + 1 ≤ 64) (hx : okS x = true) : mayX (X ++ [x]) = true := by
  unfold mayX at *
  rw [List.all_append, List.length_append]
  have := (Bool.and_eq_true_iff.1 h).2
  rw [this, decide_eq_true (by simp; omega)]
  simp [hx]
theorem mayX_long {X : List Sg} (hl : 64 < X.length) : mayX X = false := by
  unfold mayX
  rw [decide_eq_false (by omega)]; rfl
theorem mayX_bad {X : List Sg} {x : Sg} (hx : okS x = false) : mayX (X ++ [x]) = false := by
  unfold mayX
  rw [List.all_append]
  simp [hx]
theorem mayX_len {X : List Sg} (h : mayX X = true) : X.length ≤ 64 := of_decide_eq_true (Bool.and_eq_true_iff.1 h).1

/-- What is written for a sign. -/
def clR (x : Sg) : Int := if (oddB x.r || x.bad) = true then 63 else x.r
def clN (X : List Sg) : List Int := (X.take 64).map clR
def clX (X : List Sg) : List UInt8 := encs (clN X)
def piece (x : Sg) : List UInt8 := if (oddB x.r || x.bad) = true then [63] else x.bs
theorem clR_vr {x : Sg} (h : x.ok) : Vr (clR x) := by
  unfold clR
  split
  · exact .inl ⟨by decide, by decide⟩
  · exact h.vr
theorem clR_even (x : Sg) : oddB (clR x) = false := by
  unfold clR
  split
  · decide
  · rename_i h
    simp at h
    exact h.1
theorem clR_piece {x : Sg} (h : x.ok) : encodeRune (clR x) = piece x := by
  unfold clR piece
  split
  · decide
  · rename_i h2
    rcases h with ⟨hb, _⟩ | ⟨c, _, rfl⟩
    · simp [hb] at h2
    · rfl
theorem encs_piece : ∀ X : List Sg, (∀ x ∈ X, x.ok) → encs (X.map clR) = X.flatMap piece
  | [], _ => rfl
  | x :: X, h => by
    rw [List.map_cons, encs_cons, clR_piece (h x (by simp)), encs_piece X (fun y hy => h y (by simp [hy]))]
    rfl
theorem clX_piece {X : List Sg} (h : ∀ x ∈ X, x.ok) : clX X = (X.take 64).flatMap piece := encs_piece _ (fun x hx => h x (List.mem_of_mem_take hx))
theorem clN_vr {X : List Sg} (h : ∀ x ∈ X, x.ok) : ∀ c ∈ clN X, Vr c := by
  intro c hc
  unfold clN at hc
  rw [List.mem_map] at hc
  obtain ⟨x, hx, rfl⟩ := hc
  exact clR_vr (h x (List.mem_of_mem_take hx))
theorem clN_even (X : List Sg) : ∀ c ∈ clN X, oddB c = false := by
  intro c hc
  unfold clN at hc
  rw [List.mem_map] at hc
  obtain ⟨x, _, rfl⟩ := hc
  exact clR_even x
theorem clN_len (X : List Sg) : (clN X).length ≤ 64 ∧ (clN X).length ≤ X.length := by unfold clN; simp; omega
theorem clX_sgs {X : List Sg} (h : ∀ x ∈ X, x.ok) : sgs (clX X) = (clN X).map good := sgs_encs0 _ (clN_vr h)
theorem good_ok {cs : List Int} (h : ∀ c ∈ cs, Vr c) : ∀ x ∈ cs.map good, x.ok := by
  intro x hx
  rw [List.mem_map] at hx
  obtain ⟨c, hc, rfl⟩ := hx
  exact .inr ⟨c, h c hc, rfl⟩
theorem mayX_good {cs : List Int} (hl : cs.length ≤ 64) (he : ∀ c ∈ cs, oddB c = false) : mayX (cs.map good) = true := by
  unfold mayX
  rw [List.length_map, decide_eq_true hl, Bool.true_and, List.all_map, List.all_eq_true]
  intro c hc
  simp [okS, good, he c hc]
theorem clN_good {cs : List Int} (hl : cs.length ≤ 64) (he : ∀ c ∈ cs, oddB c = false) : clN (cs.map good) = cs := by
  unfold clN
  rw [List.take_of_length_le (by simpa using hl), List.map_map]
  have : ∀ c ∈ cs, (clR ∘ good) c = c := fun c hc => by simp [clR, good, he c hc]
  rw [List.map_congr_left this, List.map_id']
/-- A clean text. -/
theorem clX_may {X : List Sg} (h : ∀ x ∈ X, x.ok) : mayX (sgs (clX X)) = true := by rw [clX_sgs h]; exact mayX_good (clN_len X).1 (clN_even X)
theorem clX_again {X : List Sg} (h : ∀ x ∈ X, x.ok) : clX (sgs (clX X)) = clX X := by
  rw [clX_sgs h]
  show encs (clN _) = encs _
  rw [clN_good (clN_len X).1 (clN_even X)]
theorem piece_len {x : Sg} (h : x.ok) : (piece x).length ≤ 4 := by unfold piece; split; simp; exact h.len.2
theorem clX_len {X : List Sg} (h : ∀ x ∈ X, x.ok) : (clX X).length ≤ 256 := by
  rw [clX_piece h]
  have : ∀ Y : List Sg, (∀ x ∈ Y, x.ok) → (Y.flatMap piece).length ≤ 4 * Y.length := fun Y => by
    induction Y with
    | nil => intro _; simp
    | cons y Y ih =>
      intro hy
      have h1 := ih (fun x hx => hy x (by simp [hx]))
      have h2 := piece_len (hy y (by simp))
      rw [List.flatMap_cons, List.length_append, List.length_cons]
      omega
  have h1 := this (X.take 64) (fun x hx => h x (List.mem_of_mem_take hx))
  rw [List.length_take] at h1
  omega

/-- The signs that fit. -/
def cutS (n : Int) : Int → List Sg → List Sg
  | _, [] => []
  | w, x :: X => if n < w + widZ x.r then [] else x :: cutS n (w + widZ x.r) X
def Fit (n : Int) (X : List Sg) : Prop := X = [] ∨ wid X ≤ n
theorem cutS_go (n : Int) : ∀ (P : List Sg) (w : Int) (R : List Sg), (P = [] ∨ w + wid P ≤ n) → cutS n w (P ++ R) = P ++ cutS n (w + wid P) R
  | [], w, R, _ => by simp [wid_nil]
  | x :: P, w, R, h => by
    have h' : w + wid (x :: P) ≤ n := by rcases h with h | h; cases h; exact h
    rw [wid_cons] at h'
    have h1 := (wid_bd P).1
    show (if n < w + widZ x.r then [] else x :: cutS n (w + widZ x.r) (P ++ R)) = _
    rw [if_neg (by omega), cutS_go n P (w + widZ x.r) R (by right; omega), wid_cons, Int.add_assoc]
    rfl
theorem cutS_all {n : Int} {X : List Sg} (h : Fit n X) : cutS n 0 X = X := by
  have := cutS_go n X 0 [] (by rcases h with h | h; exact .inl h; exact .inr (by omega))
  simpa [cutS] using this
theorem cutS_stop {n : Int} {P R : List Sg} {x : Sg} (h : Fit n P) (hx : n < wid P + widZ x.r) : cutS n 0 (P ++ x :: R) = P := by
  have := cutS_go n P 0 (x :: R) (by rcases h with h | h; exact .inl h; exact .inr (by omega))
  rw [this]
  show P ++ (if n < 0 + wid P + widZ x.r then [] else _) = P
  rw [if_pos (by omega), List.append_nil]
theorem cutS_pre (n : Int) : ∀ (X : List Sg) (w : Int), cutS n w X <+: X
  | [], _ => List.prefix_refl _
  | x :: X, w => by
    unfold cutS
    split
    · exact List.nil_prefix
    · exact (List.cons_prefix_cons.2 ⟨rfl, cutS_pre n X _⟩)
theorem cutS_fit (n : Int) : ∀ (X : List Sg) (w : Int), cutS n w X = [] ∨ w + wid (cutS n w X) ≤ n
  | [], _ => .inl rfl
  | x :: X, w => by
    unfold cutS
    split
    · exact .inl rfl
    · right
      rw [wid_cons]
      rcases cutS_fit n X (w + widZ x.r) with h | h
      · rw [h, wid_nil]; omega
      · omega
theorem cutS_wid {n : Int} (h : 0 ≤ n) (X : List Sg) : wid (cutS n 0 X) ≤ n := by
  rcases cutS_fit n X 0 with h1 | h1
  · rw [h1, wid_nil]; exact h
  · omega
theorem cutS_neg {n : Int} (h : n < 0) (X : List Sg) : cutS n 0 X = [] := by
  cases X with
  | nil => rfl
  | cons x X =>
    unfold cutS
    have := widZ_bd x.r
    rw [if_pos (by omega)]
theorem cutS_begin {X Y : List Sg} : X <+: cutS (wid X) 0 (X ++ Y) := by
  rw [cutS_go (wid X) X 0 Y (.inr (by omega))]
  exact List.prefix_append _ _

/-- What is read alone is read so ahead of others, where these don't go on with it. -/
theorem sg1_more {x : Sg} {l m : List UInt8} (h : sg1 (x.bs ++ l) = x) (hne : x.bs ++ l ≠ []) (hm : ∀ c t, Vr c → x.bs ++ m = encodeRune c ++ t → ∃ t', x.bs ++ l = encodeRune c ++ t') : sg1 (x.bs ++ m) = x ∧ (dcL (x.bs ++ m)).2 = x.bs.length := by
  have hok : x.ok := h ▸ sg1_ok hne
  rcases hok with ⟨hb, hr, b, hbs, _⟩ | ⟨c, hc, rfl⟩
  · have hxl : x.bs ++ m ≠ [] := by rw [hbs]; simp
    cases hbm : isBad (dcL (x.bs ++ m))
    · exfalso
      obtain ⟨h1, h2⟩ := enc_dc hxl hbm
      obtain ⟨t', ht'⟩ := hm _ ((x.bs ++ m).drop (dcL (x.bs ++ m)).2) h1 (by rw [← h2, List.take_append_drop])
      have h3 := sg1_enc h1 t'
      rw [← ht', h] at h3
      rw [h3] at hb
      cases hb
    · have hbm' : (dcL (x.bs ++ m)).1 = 65533 ∧ (dcL (x.bs ++ m)).2 = 1 := by simpa [isBad] using hbm
      refine ⟨?_, by rw [hbm'.2, hbs]; rfl⟩
      obtain ⟨xb, xr, xbad⟩ := x
      dsimp only at *
      unfold sg1
      rw [hbm, hbm'.1, hbm'.2, hb, hr, hbs]
      rfl
  · exact ⟨sg1_enc hc m, by show (dcL (encodeRune c ++ m)).2 = _; rw [dc_enc hc]; rfl⟩
theorem sgs_more {x : Sg} {l m : List UInt8} (h : sg1 (x.bs ++ l) = x) (hne : x.bs ++ l ≠ []) (hm : ∀ c t, Vr c → x.bs ++ m = encodeRune c ++ t → ∃ t', x.bs ++ l = encodeRune c ++ t') (hxm : x.bs ++ m ≠ []) : sgs (x.bs ++ m) = x :: sgs m := by
  obtain ⟨h1, h2⟩ := sg1_more h hne hm
  rw [sgs_step hxm, h1, h2, List.drop_left]
/-- A text's beginning of whole signs. -/
theorem sgs_begin : ∀ (n : Nat) (l : List UInt8) (k : Nat), l.length ≤ n → sgs (glue ((sgs l).take k)) = (sgs l).take k
  | _, l, 0, _ => by simp [glue, sgs_nil]
  | 0, l, k + 1, h => by
    have : l = [] := List.eq_nil_of_length_eq_zero (by omega)
    subst this; rfl
  | n + 1, l, k + 1, h => by
    by_cases hl : l = []
    · subst hl; rfl
    · have hw := dcL_w hl
      have hbs : (sg1 l).bs ++ l.drop (dcL l).2 = l := List.take_append_drop _ _
      rw [sgs_step hl, List.take_succ_cons]
      show sgs ((sg1 l).bs ++ glue ((sgs (l.drop (dcL l).2)).take k)) = _
      have ih := sgs_begin n (l.drop (dcL l).2) k (by simp; omega)
      have hlen : (sg1 l).bs.length = (dcL l).2 := by unfold sg1; dsimp only; rw [List.length_take]; omega
      rw [sgs_more (l := l.drop (dcL l).2) (by rw [hbs]) (by rw [hbs]; exact hl) ?_ ?_, ih]
      · intro c t _ e
        have hp := pos_parts (l.drop (dcL l).2) k
        refine ⟨t ++ glue ((sgs (l.drop (dcL l).2)).drop k), ?_⟩
        rw [← List.append_assoc, ← e, List.append_assoc, hp]
      · intro e
        have := congrArg List.length e
        rw [List.length_append, hlen, List.length_nil] at this
        omega
theorem sgs_cut (n : Int) (l : List UInt8) : sgs (glue (cutS n 0 (sgs l))) = cutS n 0 (sgs l) := by
  have h := List.prefix_iff_eq_take.1 (cutS_pre n (sgs l) 0)
  rw [h]
  exact sgs_begin _ l _ (Nat.le_refl _)
theorem enc_high {c : Int} (h : Vr c) (hc : 128 ≤ c) : ∀ b ∈ encodeRune c, 128 ≤ b.toNat := by
  intro b hb
  unfold encodeRune at hb
  rw [List.mem_map] at hb
  obtain ⟨y, hy, rfl⟩ := hb
  have hi := h.int
  have hyb := Lib.encodeRuneZ_byte c y hy
  rw [u8 y hyb.1 hyb.2]
  unfold Lib.encodeRuneZ at hy
  repeat' split at hy
  all_goals simp at hy
  all_goals omega
theorem enc_low {c : Int} (h : Vr c) (hc : c < 128) : encodeRune c = [c.toNat.toUInt8] := by
  unfold encodeRune
  rw [Lib.encodeRuneZ_one h.int.1 (by omega)]
  rfl
theorem enc_head {c : Int} (h : Vr c) {b : UInt8} {t u : List UInt8} (e : b :: t = encodeRune c ++ u) (hb : 128 ≤ b.toNat) : 128 ≤ c := by
  rcases Int.lt_or_le c 128 with h1 | h1
  · rw [enc_low h h1] at e
    injection e with e1 _
    rw [e1, u8 c h.int.1 (by omega)] at hb
    omega
  · exact h1
/-- Signs ahead of one byte below 128. -/
theorem sgs_ascii : ∀ (n : Nat) (l m : List UInt8) (b : UInt8), l.length ≤ n → b.toNat < 128 → sgs (l ++ b :: m) = sgs l ++ sgs (b :: m)
  | 0, l, m, b, h, _ => by
    have : l = [] := List.eq_nil_of_length_eq_zero (by omega)
    subst this; rfl
  | n + 1, l, m, b, h, hb => by
    by_cases hl : l = []
    · subst hl; rfl
    · have hw := dcL_w hl
      have hbs : (sg1 l).bs ++ l.drop (dcL l).2 = l := List.take_append_drop _ _
      have ih := sgs_ascii n (l.drop (dcL l).2) m b (by simp; omega) hb
      have hlen : (sg1 l).bs.length = (dcL l).2 := by unfold sg1; dsimp only; rw [List.length_take]; omega
      rw [sgs_step hl]
      conv => lhs; rw [← hbs, List.append_assoc]
      rw [sgs_more (l := l.drop (dcL l).2) (by rw [hbs]) (by rw [hbs]; exact hl) ?_ ?_, ih]
      · rfl
      · intro c t hc e
        rw [hbs]
        rcases sg1_ok hl with ⟨_, _, a, ha, ha2⟩ | ⟨c2, hc2, e2⟩
        · rw [← List.append_assoc, hbs] at e
          have hlc : l = a :: l.drop (dcL l).2 := by
            have h9 := hbs
            rw [ha] at h9
            exact h9.symm
          have hc128 : 128 ≤ c := by
            rw [hlc] at e
            exact enc_head hc e ha2
          rcases Nat.lt_or_ge l.length (encodeRune c).length with h1 | h1
          · exfalso
            have h2 : (encodeRune c)[l.length]? = some b := by
              have : (l ++ b :: m)[l.length]? = (encodeRune c ++ t)[l.length]? := by rw [e]
              rw [List.getElem?_append_right (Nat.le_refl _), Nat.sub_self, List.getElem?_append_left h1] at this
              exact this.symm
            have := enc_high hc hc128 b (List.mem_of_getElem? h2)
            omega
          · refine ⟨l.drop (encodeRune c).length, ?_⟩
            have h2 : l.take (encodeRune c).length = encodeRune c := by
              have := congrArg (List.take (encodeRune c).length) e
              rw [List.take_append_of_le_length h1, List.take_left] at this
              exact this
            conv => lhs; rw [← List.take_append_drop (encodeRune c).length l, h2]
        · refine ⟨l.drop (dcL l).2, ?_⟩
          have e3 : sg1 (encodeRune c ++ t) = good c := sg1_enc hc t
          have e4 : sg1 (encodeRune c2 ++ (l.drop (dcL l).2 ++ b :: m)) = good c2 := sg1_enc hc2 _
          have hgb : (sg1 l).bs = encodeRune c2 := by rw [e2]; rfl
          rw [← e, hgb, e4] at e3
          have hcc : c2 = c := by injection e3
          rw [← hcc, ← hgb, hbs]
      · intro e
        have := congrArg List.length e
        rw [List.length_append, hlen, List.length_nil] at this
        omega
theorem good32 : good 32 = ⟨[32], 32, false⟩ := by unfold good; rw [show encodeRune 32 = [32] by decide]
theorem sgs_blanks : ∀ m : Nat, sgs (List.replicate m 32) = List.replicate m (good 32)
  | 0 => rfl
  | m + 1 => by
    have e : encodeRune 32 = [32] := by decide
    have := sgs_enc (c := 32) (.inl (by omega)) (List.replicate m 32)
    rw [e] at this
    rw [List.replicate_succ, List.replicate_succ, ← sgs_blanks m, ← this]
    rfl
theorem wid_blanks (m : Nat) : wid (List.replicate m (good 32)) = m := by
  induction m with
  | zero => rfl
  | succ m ih =>
    rw [List.replicate_succ, wid_cons, ih]
    have : widZ (good 32).r = 1 := by decide
    rw [this]; omega
/-- What is padded. -/
def padX (n : Int) (l : List UInt8) : List UInt8 := glue (cutS n 0 (sgs l)) ++ List.replicate (max (n - wid (cutS n 0 (sgs l))) 0).toNat 32
theorem padX_sgs (n : Int) (l : List UInt8) : sgs (padX n l) = cutS n 0 (sgs l) ++ List.replicate (max (n - wid (cutS n 0 (sgs l))) 0).toNat (good 32) := by
  unfold padX
  cases hm : (max (n - wid (cutS n 0 (sgs l))) 0).toNat with
  | zero => simp [sgs_cut]
  | succ m =>
    rw [List.replicate_succ, sgs_ascii _ _ _ _ (Nat.le_refl _) (by decide), sgs_cut, ← List.replicate_succ, sgs_blanks]
theorem padX_wid {n : Int} (h : 0 ≤ n) (l : List UInt8) : wid (sgs (padX n l)) = n := by
  rw [padX_sgs, wid_app, wid_blanks]
  have := cutS_wid h (sgs l)
  omega

end Go.Proofs.YthkbenhlhldglaaDoor
namespace Go.Proofs.YthkbenhlhldglaaDoor
open Go.RowKit Go.Sort Go.Shelf
attribute [local go_sem] Oper.semAt_some

theorem zip2 (X : Array Value) (i j : Nat) (a b : Value) : Array.foldl (fun t x => t.setIfInBounds x.1 x.2) X ((#[i, j] : Array Nat).zip #[a, b]) = (X.setIfInBounds i a).setIfInBounds j b := by
  rw [← Array.foldl_toList]; simp
theorem ownAt {β : Type} (B b : Nat) (cs : β → Array Value) (t : TypeId) : OwnFrom B (fun s W => At W b (cs s) t) := fun s X Y row hs hg hr =>
  hs.grown hg (fun e => by obtain ⟨_, o, ho, hc⟩ := hr b e.symm; rw [show X.heap[b]? = _ from hs] at ho; cases ho; cases hc)
theorem then_false {K : Act → World → Prop} {Q : Exit → Act → World → Prop} : ∀ e a w, Exit.then K (fun _ _ _ => False) e a w → Exit.then K Q e a w := by
  intro e a w h
  cases e <;> first | exact h | exact h.elim
/-- Behind the loop's own bookkeeping. -/
theorem below_fin {w W0 W : World} {D : Nat} {o o' : Obj} (h : Below w.heap.size w W) (hD : W0.heap.size ≤ D) (h0 : w.heap.size ≤ W0.heap.size) (_ : W.heap[D]? = some o) : Below w.heap.size w (W.putObj D o') :=
  h.grown (grownBy_putObj' W D o') (by have := h.size; omega) (fun k e => by cases e; omega)

end Go.Proofs.YthkbenhlhldglaaDoor
namespace Go.Proofs.YthkbenhlhldglaaDoor
open Go.RowKit Go.Sort Go.Shelf

theorem others_keep {b : Nat} {w w' : World} {cs : Array Value} {T : TypeId} (h : Lib.OthersKept 5 (some b) w w') (hb : At w b cs T) (hs : w.heap.size ≤ w'.heap.size) : KeepsOthers w w' :=
  ⟨hs, fun k o hk ho => h k o hk (fun e => by
    cases e
    rw [show w.heap[b]? = _ from hb] at hk
    cases hk; cases ho) (fun c fz e => by subst e; cases ho)⟩
theorem At.others {b k : Nat} {w w' : World} {cs : Array Value} {t : TypeId} (h : At w k cs t) (g : Lib.OthersKept 5 (some b) w w') (hkb : k ≠ b) (ht : t ≠ 5) : At w' k cs t :=
  g k _ h (fun e => hkb (Option.some.inj e)) (fun c fz e => by injection e with _ e _; exact ht e)
theorem byteCells_len (L : List UInt8) : (Lib.byteCells L).length = L.length := Lib.byteCells_length L
end Go.Proofs.YthkbenhlhldglaaDoor
namespace Go.Proofs.YthkbenhlhldglaaDoor
open Go.RowKit Go.Sort Go.Shelf
attribute [local go_sem] Oper.semAt_some

set_option maxRecDepth 100000 in
set_option maxHeartbeats 4000000 in
theorem tmay1 (s : ByteArray) (hs : s.size ≤ 1000000) (w : World) : Calls Tryd.prog 116 #[.string s] w (Bt w (.bool (mayX (sgs s.data.toList)))) := by
  refine (callsIn_wide (n := 5)).1 ?_
  refine callsIn_of_wp_marks Tryd.func116 rfl trivial ?_ rfl
  simp only [Tryd.ntmps116, List.size_toArray, List.length_cons, List.length_nil, Nat.reduceAdd, Nat.reduceSub, Array.replicate_succ, Array.replicate_zero, List.push_toArray, List.append_toArray, List.nil_append, List.cons_append]
  have hn := sgs_len s.data.toList
  rw [show s.data.toList.length = s.size from Array.length_toList] at hn
  have a1 := ((At.new w #[.string s] 9).alloc (.cells #[.bool false] 4)).alloc (.cells #[.int .i64 0] 3)
  have a2 := (At.newAt (w := w.alloc (.cells #[.string s] 9)) (n := w.heap.size + 1) (by simp) #[.bool false] 4).alloc (.cells #[.int .i64 0] 3)
  have a3 := At.newAt (w := (w.alloc (.cells #[.string s] 9)).alloc (.cells #[.bool false] 4)) (n := w.heap.size + 2) (by simp) #[.int .i64 0] 3
  have G2 : Bl w (((w.alloc (.cells #[.string s] 9)).alloc (.cells #[.bool false] 4)).alloc (.cells #[.int .i64 0] 3)) := ((((Bl.refl w).alloc _).alloc _).alloc _)
  have hz : (((w.alloc (.cells #[.string s] 9)).alloc (.cells #[.bool false] 4)).alloc (.cells #[.int .i64 0] 3)).heap.size = w.heap.size + 3 := by simp
  gi_wp2_with fail
  refine ⟨trivial, ?_⟩
  refine (callsIn_wide.2 (signs1 s _)).mono ?_
  rintro e w1 ⟨rfl, rfl⟩
  obtain ⟨U0, hU0⟩ : ∃ U0, U0 = (((w.alloc (.cells #[.string s] 9)).alloc (.cells #[.bool false] 4)).alloc (.cells #[.int .i64 0] 3)) := ⟨_, rfl⟩
  rw [← hU0] at a1 a2 a3 G2 hz ⊢
  clear hU0
  replace a1 := a1.alloc (.cells #[.string s] 9)
  replace a2 := a2.alloc (.cells #[.string s] 9)
  replace a3 := a3.alloc (.cells #[.string s] 9)
  have a4 := At.newAt (w := U0) (n := w.heap.size + 3) hz #[.string s] 9
  replace G2 := G2.alloc (.cells #[.string s] 9)
  rw [hz]
  have hz2 : (U0.alloc (.cells #[.string s] 9)).heap.size = w.heap.size + 4 := by simp [hz]
  obtain ⟨U, hU⟩ : ∃ U, U = U0.alloc (.cells #[.string s] 9) := ⟨_, rfl⟩
  rw [← hU] at a1 a2 a3 a4 G2 hz2 ⊢
  clear hU hz
  gi_wp2
  refine wpIn_rangeFunc_ownG rfl (by omega) (gf := 138) (lb := #[.pointer (some ⟨w.heap.size + 3, 0, none⟩)]) rfl trivial (enters_of Tryd.func138 (by kernel_rfl) rfl)
    (signsStops (5 - 1) (by omega) _ _ s (by omega) _ a4) (fun h k => walksK_t h k) walksK_b (Below.refl _ _) (fun _ => rfl)
    (fun pre V => At V w.heap.size #[.string s] 9 ∧ At V (w.heap.size + 1) #[.bool false] 4 ∧ At V (w.heap.size + 2) #[.int .i64 (pre.length : Nat)] 3 ∧ Below w.heap.size w V ∧ mayX (gF s.data.toList pre) = true)
    (fun c pre V => c = .ret ∧ At V (w.heap.size + 1) #[.bool false] 4 ∧ Below w.heap.size w V ∧ mayX (gF s.data.toList pre) = false)
    ((ownAt _ _ _ _).and ((ownAt _ _ _ _).and ((ownAt _ _ _ _).and ((ownFrom_below (Nat.le_refl _) (by omega)).and (ownFrom_pure _ _)))))
    (fun c => (ownFrom_pure _ _).and ((ownAt _ _ _ _).and ((ownFrom_below (Nat.le_refl _) (by omega)).and (ownFrom_pure _ _))))
    ⟨a1, a2, a3, G2, rfl⟩
    (fun x => { tmps := #[.string s, .pointer (some ⟨w.heap.size, 0, none⟩), .pointer (some ⟨w.heap.size + 1, 0, none⟩), .pointer (some ⟨w.heap.size + 2, 0, none⟩), .int .i64 (pos s.data.toList x.1 : Nat), .int .i32 (rAt s.data.toList x), .string s, .func (.func 138) #[] #[.pointer (some ⟨w.heap.size + 3, 0, none⟩)], .int .i64 (pos s.data.toList x.1 : Nat), .int .i32 (rAt s.data.toList x),
      undef, undef, undef, undef, undef, undef, undef, undef, undef, undef, undef, undef, undef, undef], defers := [] }) ?assign ?body ?done ?stop
  case assign =>
    intro l x W' K' hK'
    dsimp only [sgV]
    gi_wp2
    exact hK'
  case body =>
    rintro l pre x W' ⟨i1, i2, i3, hb, hmay⟩ hlen
    have hgl := gF_len s.data.toList pre
    have hsn := gF_snoc s.data.toList pre x
    have co := fun w => odd1 (rAt s.data.toList x) w
    have cb : ∀ w, Calls Tryd.prog 128 #[.string s, .int .i64 (pos s.data.toList x.1 : Nat), .int .i32 (rAt s.data.toList x)] w fun e w' => e = .returned (.bool ((sgs s.data.toList)[x.1]'x.2).bad) ∧ w = w' := fun w => broken1 s (by omega) x.1 _ (sgs_get _ x) w
    have hok : okS ((sgs s.data.toList)[x.1]'x.2) = (!(oddB (rAt s.data.toList x)) && !((sgs s.data.toList)[x.1]'x.2).bad) := rfl
    have hA := fun (h : 64 < pre.length + 1) => mayX_long (X := gF s.data.toList pre ++ [(sgs s.data.toList)[x.1]'x.2]) (by rw [List.length_append, hgl]; simpa using h)
    have hB := fun h => mayX_bad (X := gF s.data.toList pre) (x := (sgs s.data.toList)[x.1]'x.2) h
    have hC := fun h1 h2 => mayX_step hmay (x := (sgs s.data.toList)[x.1]'x.2) h1 h2
    rw [hgl] at hC
    rw [← hsn] at hA hB hC
    generalize ((sgs s.data.toList)[x.1]'x.2).bad = bad at *
    generalize rAt s.data.toList x = r at *
    generalize okS ((sgs s.data.toList)[x.1]'x.2) = ok at *
    generalize oddB r = od at *
    have c0 : W'.cell? ⟨w.heap.size, 0, none⟩ = some (.string s) := i1.cell 0
    have c3 : W'.cell? ⟨w.heap.size + 2, 0, none⟩ = some (.int .i64 (pre.length : Nat)) := i3.cell 0
    have f2 : W'.frozen? ⟨w.heap.size + 1, 0, none⟩ = false := i2.free 0
    have k2 : W'.cell? ⟨w.heap.size + 1, 0, none⟩ = some (.bool false) := i2.cell 0
    have f3 : W'.frozen? ⟨w.heap.size + 2, 0, none⟩ = false := i3.free 0
    have hpl : pre.length ≤ 1000000 := by omega
    have j3 := i3.put 0 (.int .i64 (((pre ++ [x]).length : Nat) : Int))
    have j1 := i1.far (p := ⟨w.heap.size + 2, 0, none⟩) (by simp) (.int .i64 (((pre ++ [x]).length : Nat) : Int))
    have j2 := i2.far (p := ⟨w.heap.size + 2, 0, none⟩) (by simp) (.int .i64 (((pre ++ [x]).length : Nat) : Int))
    have jb := hb.setCell (p := ⟨w.heap.size + 2, 0, none⟩) (by simp) (.int .i64 (((pre ++ [x]).length : Nat) : Int))
    have jk := KeepsOthers.setCell W' ⟨w.heap.size + 2, 0, none⟩ (.int .i64 (((pre ++ [x]).length : Nat) : Int))
    have e1 : (((pre ++ [x]).length : Nat) : Int) = (pre.length : Int) + 1 := by simp
    rw [e1] at j1 j2 j3 jb jk
    simp only [Array.setIfInBounds] at j3
    have ends : ∀ V, V = (W'.setCell ⟨w.heap.size + 2, 0, none⟩ (.int .i64 ((pre.length : Int) + 1))).setCell ⟨w.heap.size + 1, 0, none⟩ (.bool false) → KeepsFrom U.heap.size W' V ∧ At V (w.heap.size + 1) #[.bool false] 4 ∧ Below w.heap.size w V := by
      rintro V rfl
      exact ⟨(jk.trans (KeepsOthers.setCell _ _ _)).from _, by simpa using j2.put 0 (.bool false), jb.setCell (p := ⟨w.heap.size + 1, 0, none⟩) (by simp) _⟩
    replace hsn := Lib.hid hsn
    replace hgl := Lib.hid hgl
    replace hmay := Lib.hid hmay
    replace hok := Lib.hid hok
    replace hA := Lib.hid hA
    replace hB := Lib.hid hB
    replace hC := Lib.hid hC
    replace ends := Lib.hid ends
    by_cases h64 : 64 < pre.length + 1
    · have q : 64 < ((pre.length : Int)) + 1 := by omega
      have hm := Lib.hid (hA.out h64)
      gi_wp2_with (refine ⟨trivial, ?_⟩)
      obtain ⟨t1, t2, t3⟩ := ends.out _ rfl
      exact ⟨t1, rfl, t2, t3, hm.out⟩
    · have q : decide (64 < ((pre.length : Int)) + 1) = false := by simp; omega
      cases od
      · cases bad
        · have hm := Lib.hid (hC.out (by omega) (by rw [hok.out]; rfl))
          gi_wp2_with (first | (refine ⟨trivial, ?_⟩; gi_at_call 127; refine (CallsIn.inRound l (callsIn_wide.2 (co _))).mono ?_; rintro e w2 ⟨rfl, rfl⟩) | (refine ⟨trivial, ?_⟩; gi_at_call 128; refine (CallsIn.inRound l (callsIn_wide.2 (cb _))).mono ?_; rintro e w2 ⟨rfl, rfl⟩) | (refine ⟨trivial, ?_⟩))
          refine ⟨jk.from _, jk.walks, j1, j2, ?_, jb, hm.out⟩
          rw [e1]; exact j3
        · have hm := Lib.hid (hB.out (by rw [hok.out]; rfl))
          gi_wp2_with (first | (refine ⟨trivial, ?_⟩; gi_at_call 127; refine (CallsIn.inRound l (callsIn_wide.2 (co _))).mono ?_; rintro e w2 ⟨rfl, rfl⟩) | (refine ⟨trivial, ?_⟩; gi_at_call 128; refine (CallsIn.inRound l (callsIn_wide.2 (cb _))).mono ?_; rintro e w2 ⟨rfl, rfl⟩) | (refine ⟨trivial, ?_⟩))
          obtain ⟨t1, t2, t3⟩ := ends.out _ rfl
          exact ⟨t1, rfl, t2, t3, hm.out⟩
      · have hm := Lib.hid (hB.out (by rw [hok.out]; rfl))
        gi_wp2_with (first | (refine ⟨trivial, ?_⟩; gi_at_call 127; refine (CallsIn.inRound l (callsIn_wide.2 (co _))).mono ?_; rintro e w2 ⟨rfl, rfl⟩) | (refine ⟨trivial, ?_⟩))
        obtain ⟨t1, t2, t3⟩ := ends.out _ rfl
        exact ⟨t1, rfl, t2, t3, hm.out⟩
  case done =>
    rintro D ys W' hD hys ⟨i1, i2, i3, hb, hmay⟩ hK'
    rw [gF_all hys] at hmay
    replace hmay := Lib.hid hmay
    clear hys
    have k2 : W'.cell? ⟨w.heap.size + 1, 0, none⟩ = some (.bool false) := i2.cell 0
    have f2 : W'.frozen? ⟨w.heap.size + 1, 0, none⟩ = false := i2.free 0
    gi_wp2
    have hX := i2.put 0 (.bool true)
    simp only [Array.setIfInBounds] at hX
    have hbX := hb.setCell (p := ⟨w.heap.size + 1, 0, none⟩) (by simp) (.bool true)
    have hKX : (W'.setCell ⟨w.heap.size + 1, 0, none⟩ (.bool true)).heap[D]? = some (.deferred (some [])) := (Below.heap_setCell _ _ _ _ (by simp; omega)).trans hK'
    replace hX : At (W'.setCell ⟨w.heap.size + 1, 0, none⟩ (.bool true)) (w.heap.size + 1) #[.bool true] 4 := by simpa using i2.put 0 (.bool true)
    generalize W'.setCell ⟨w.heap.size + 1, 0, none⟩ (.bool true) = X at hX hbX hKX ⊢
    refine ⟨by simp, .inl ⟨_, _, rfl, run_takeDeferred hKX, ?_⟩⟩
    have hgp := grownBy_putObj' X D (.deferred none)
    have c5 : (X.putObj D (.deferred none)).cell? ⟨w.heap.size + 1, 0, none⟩ = some (.bool true) := (hX.grown hgp (by simp; omega)).cell 0
    refine ⟨.bool true, ?_, by rw [hmay.out], ?_⟩
    · simp [results, Tryd.results116, go_sem, c5]
    · exact below_fin hbX hD (by omega) hKX
  case stop =>
    rintro D cx pre W' hD hpre ⟨rfl, i2, hb, hmay⟩ hK'
    have hm : mayX (sgs s.data.toList) = false := by
      rw [gF_pre hpre] at hmay
      exact mayX_pre (List.take_prefix _ _) hmay
    replace hm := Lib.hid hm
    clear hpre hmay
    gi_wp2
    refine ⟨by simp, .inl ⟨_, _, rfl, run_takeDeferred hK', ?_⟩⟩
    have hgp := grownBy_putObj' W' D (.deferred none)
    have c5 : (W'.putObj D (.deferred none)).cell? ⟨w.heap.size + 1, 0, none⟩ = some (.bool false) := (i2.grown hgp (by simp; omega)).cell 0
    refine ⟨.bool false, ?_, by rw [hm.out], ?_⟩
    · simp [results, Tryd.results116, go_sem, c5]
    · exact below_fin hb hD (by omega) hK'
end Go.Proofs.YthkbenhlhldglaaDoor
