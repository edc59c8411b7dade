/-
  What is proved: what Form of package args, and the document's, tell of any text. No conditions but a bound.
-/
import Derived.Test.YthkbenhlhldglaaDoorMc
import Derived.Test.YthkbenhlhldglaaDoorShc
import Derived.Shelf.Strings.SlTrimAscii
namespace Go.Proofs.YthkbenhlhldglaaDoor
open Go.RowKit Go.Sort

/-- A letter that may stand anywhere. -/
def four (c : UInt8) : Bool := c == 105 || c == 117 || c == 115 || c == 114
theorem formR_spec : ∀ f : List UInt8, formR f = true ↔ ∀ (i : Nat) (c : UInt8), f[i]? = some c → four c = true ∨ (c = 98 ∧ i + 1 = f.length)
  | [] => by simp [formR]
  | d :: f => by
    have ih := formR_spec f
    unfold formR
    rw [Bool.and_eq_true, ih]
    constructor
    · rintro ⟨h1, h2⟩ i c hc
      cases i with
      | zero =>
        simp at hc; subst hc
        simp only [Bool.or_eq_true, Bool.and_eq_true, beq_iff_eq, List.isEmpty_iff] at h1
        rcases h1 with h1 | ⟨h1, rfl⟩
        · left; unfold four; simp only [Bool.or_eq_true, beq_iff_eq]; exact h1
        · right; exact ⟨h1, rfl⟩
      | succ i =>
        rcases h2 i c (by simpa using hc) with h | ⟨h, h'⟩
        · exact .inl h
        · exact .inr ⟨h, by simp; exact h'⟩
    · intro h
      refine ⟨?_, fun i c hc => ?_⟩
      · rcases h 0 d rfl with h' | ⟨h', h2⟩
        · unfold four at h'; simp only [Bool.or_eq_true, beq_iff_eq] at h' ⊢; exact .inl h'
        · have : f = [] := List.eq_nil_of_length_eq_zero (by simpa using h2)
          subst this
          simp [h']
      · rcases h (i + 1) c (by simpa using hc) with h' | ⟨h', h2⟩
        · exact .inl h'
        · exact .inr ⟨h', by simpa using h2⟩
/-- What is left of a text, its last letter b struck, when the other letters are struck ahead. -/
theorem trim_form (f : List UInt8) : (Lib.trimLeftS (Lib.trimSuffix f [98]) [105, 117, 115, 114] = []) ↔ formR f = true := by
  have hd : ∀ l : List UInt8, Lib.trimLeftS l [105, 117, 115, 114] = [] ↔ ∀ c ∈ l, four c = true := by
    intro l
    have e : ∀ c : UInt8, ([105, 117, 115, 114] : List UInt8).contains c = four c := by intro c; rw [Bool.eq_iff_iff]; simp [four, or_assoc]
    unfold Lib.trimLeftS
    simp only [e]
    induction l with
    | nil => simp
    | cons d l ih =>
      rw [List.dropWhile_cons]
      cases hd : four d with
      | true => rw [if_pos rfl]; exact ih.trans (by simp [hd])
      | false => rw [if_neg (by simp)]; simp [hd]
  rw [hd, formR_spec]
  unfold Lib.trimSuffix
  by_cases hs : Lib.hasSuffix f [98] = true
  · rw [if_pos hs]
    have hf : ∃ g, f = g ++ [98] := by
      unfold Lib.hasSuffix at hs
      simp at hs
      obtain ⟨g, h2⟩ := hs
      exact ⟨g, h2.symm⟩
    obtain ⟨g, rfl⟩ := hf
    rw [show (g ++ [(98 : UInt8)]).length - [(98 : UInt8)].length = g.length from by simp, List.take_left]
    constructor
    · intro h i c hc
      rcases Nat.lt_or_ge i g.length with hi | hi
      · rw [List.getElem?_append_left hi] at hc
        exact .inl (h c (List.mem_of_getElem? hc))
      · rw [List.getElem?_append_right hi] at hc
        have : i - g.length = 0 := by
          rcases Nat.eq_zero_or_pos (i - g.length) with h' | h'
          · exact h'
          · rw [List.getElem?_eq_none (by simp; omega)] at hc; cases hc
        rw [this] at hc
        simp at hc
        exact .inr ⟨hc.symm, by simp; omega⟩
    · intro h c hc
      obtain ⟨i, hi⟩ := List.getElem?_of_mem hc
      have hl : i < g.length := by
        rcases Nat.lt_or_ge i g.length with h' | h'
        · exact h'
        · rw [List.getElem?_eq_none h'] at hi; cases hi
      rcases h i c (by rw [List.getElem?_append_left hl]; exact hi) with h' | ⟨_, h'⟩
      · exact h'
      · simp at h'; omega
  · rw [if_neg hs]
    constructor
    · intro h i c hc; exact .inl (h c (List.mem_of_getElem? hc))
    · intro h c hc
      obtain ⟨i, hi⟩ := List.getElem?_of_mem hc
      rcases h i c hi with h' | ⟨rfl, h'⟩
      · exact h'
      · exfalso
        apply hs
        unfold Lib.hasSuffix
        have hl : f.length = i + 1 := h'.symm
        simp
        refine ⟨f.take i, ?_⟩
        have e : f.drop i = [98] := by
          rw [List.drop_eq_getElem_cons (by omega), List.drop_of_length_le (by omega)]
          have := List.getElem?_eq_getElem (l := f) (i := i) (by omega)
          rw [this] at hi; rw [Option.some.inj hi]
        rw [← e, List.take_append_drop]

theorem trimLeft1 (s : ByteArray) (w : World) :
    Calls Tryd.prog 99 #[.string s, .string ⟨#[105, 117, 115, 114]⟩] w fun e w' => e = .returned (.string ⟨(Lib.trimLeftS s.data.toList [105, 117, 115, 114]).toArray⟩) ∧ Bl w w' :=
  Any.strings_TrimLeft_laid sh_lays161 (by kernel_rfl) s ⟨#[105, 117, 115, 114]⟩ w (by decide) (ascii_of_all (by decide))

set_option maxRecDepth 100000 in
set_option maxHeartbeats 1000000 in
theorem aform1 (s : ByteArray) (w : World) (hs : s.size ≤ 1000) : Calls Tryd.prog 71 #[.string s] w fun e w' => e = .returned (.bool (formB s.data.toList)) ∧ Bl w w' := by
  have hsz : s.data.toList.length = s.size := rfl
  have hf := trim_form s.data.toList
  unfold formB
  rw [hsz]
  by_cases h8 : s.size ≤ 8
  · rw [decide_eq_true h8, Bool.and_true]
    have h8' : (s.size : Int) ≤ 8 := by omega
    have c1 := fun V => sh_strings_TrimSuffix s ⟨#[98]⟩ V (by omega)
    have c2 := fun V => trimLeft1 ⟨(Lib.trimSuffix s.data.toList [98]).toArray⟩ V
    have e1 : (ByteArray.mk (Lib.trimSuffix s.data.toList [98]).toArray).data.toList = Lib.trimSuffix s.data.toList [98] := rfl
    rw [e1] at c2
    generalize Lib.trimLeftS (Lib.trimSuffix s.data.toList [98]) [105, 117, 115, 114] = T at *
    generalize Lib.trimSuffix s.data.toList [98] = U at *
    generalize formR s.data.toList = b at *
    clear hsz e1
    replace hf := Lib.hid hf
    go_enter Tryd.func71, Tryd.ntmps71
    go_wp2_with fail
    refine (c1 _).mono ?_
    rintro e w1 ⟨rfl, rfl⟩
    go_wp2_with fail
    refine (c2 _).mono ?_
    rintro e w2 ⟨rfl, g2⟩
    go_wp2
    go_ret
    refine ⟨?_, g2⟩
    have e : T.isEmpty = b := by
      rw [Bool.eq_iff_iff, List.isEmpty_iff]
      exact hf.out
    simp [e]
  · rw [decide_eq_false h8, Bool.and_false]
    have h8' : ¬ (s.size : Int) ≤ 8 := by omega
    clear hf hsz
    go_enter Tryd.func71, Tryd.ntmps71
    go_wp2
    go_ret
    exact ⟨rfl, Bl.refl _⟩

theorem ne_of' {c k : UInt8} (h : c ≠ k) : ¬ ((c.toNat : Int) = k.toNat) := fun e => h (UInt8.toNat_inj.1 (by omega))
theorem four_ne {c : UInt8} : four c = true ↔ c = 105 ∨ c = 117 ∨ c = 115 ∨ c = 114 := by
  unfold four; simp [or_assoc]
set_option maxRecDepth 100000 in
set_option maxHeartbeats 2000000 in
theorem rform1 (s : ByteArray) (w : World) (hs : s.size ≤ 1000) : Calls Tryd.prog 66 #[.string s] w fun e w' => e = .returned (.bool (formB s.data.toList)) ∧ Bl w w' := by
  have hsz : s.data.toList.length = s.size := rfl
  have hf := formR_spec s.data.toList
  unfold formB
  rw [hsz] at hf ⊢
  replace hsz := Lib.hid hsz
  generalize hb : formR s.data.toList = b at *
  have hz : (s.size : Int) ≤ 1000 := by omega
  replace hf := Lib.hid hf
  clear hb
  go_enter Tryd.func66, Tryd.ntmps66
  go_wp2
  go_loopw [3] (fun i wr => ∃ k : Nat, k ≤ s.size ∧ i = .int .i64 k ∧ Bl w wr ∧ ∀ j c, j < k → s.data.toList[j]? = some c → four c = true ∨ (c = 98 ∧ j + 1 = s.size)) (fun i _ => s.size - (intOf i).toNat)
  case atStart => exact ⟨0, Nat.zero_le _, rfl, Bl.refl _, fun j c hj => absurd hj (by omega)⟩
  case round =>
    obtain ⟨k, hk, rfl, G, hall⟩ := hrel
    replace hall := Lib.hid hall
    by_cases hlt : k < s.size
    · have q1 : (k : Int) < s.size := by omega
      have hc : s.data.toList[k]? = some s[k] := by rw [List.getElem?_eq_getElem (by rw [hsz.out]; exact hlt)]; rfl
      have next : (four s[k] = true ∨ (s[k] = 98 ∧ k + 1 = s.size)) → ∀ j c, j < k + 1 → s.data.toList[j]? = some c → four c = true ∨ (c = 98 ∧ j + 1 = s.size) := by
        intro h j c hj hjc
        rcases Nat.lt_or_ge j k with h' | h'
        · exact hall.out j c h' hjc
        · obtain rfl : j = k := by omega
          rw [hc] at hjc
          cases hjc
          exact h
      have stop : ¬ (four s[k] = true ∨ (s[k] = 98 ∧ k + 1 = s.size)) → b = false := by
        intro h
        cases hb : b with
        | false => rfl
        | true => exact absurd (hf.out.1 hb k s[k] hc) h
      replace hc := Lib.hid hc
      replace next := Lib.hid next
      replace stop := Lib.hid stop
      have lit : ∀ x : UInt8, s[k] = x → (s[k].toNat : Int) = x.toNat := fun x h => by rw [h]
      have nlit : ∀ x : UInt8, s[k] ≠ x → ¬ (s[k].toNat : Int) = x.toNat := fun x h => ne_of' h
      by_cases h1 : s[k] = 105
      · have e1 := lit 105 h1
        simp only [UInt8.reduceToNat] at e1
        replace h1 := Lib.hid h1
        clear lit nlit
        go_wp2
        go_roundw
        case rel => exact ⟨k + 1, by omega, by go_num, G, next.out (.inl (four_ne.2 (by simp [h1.out])))⟩
        case measure => simp [intOf]; omega
      · by_cases h2 : s[k] = 117
        · have e1 := lit 117 h2
          simp only [UInt8.reduceToNat] at e1
          replace h2 := Lib.hid h2
          replace h1 := Lib.hid h1
          clear lit nlit
          go_wp2
          go_roundw
          case rel => exact ⟨k + 1, by omega, by go_num, G, next.out (.inl (four_ne.2 (by simp [h2.out])))⟩
          case measure => simp [intOf]; omega
        · by_cases h3 : s[k] = 115
          · have e1 := lit 115 h3
            simp only [UInt8.reduceToNat] at e1
            replace h3 := Lib.hid h3
            replace h2 := Lib.hid h2
            replace h1 := Lib.hid h1
            clear lit nlit
            go_wp2
            go_roundw
            case rel => exact ⟨k + 1, by omega, by go_num, G, next.out (.inl (four_ne.2 (by simp [h3.out])))⟩
            case measure => simp [intOf]; omega
          · by_cases h4 : s[k] = 114
            · have e1 := lit 114 h4
              simp only [UInt8.reduceToNat] at e1
              replace h4 := Lib.hid h4
              replace h3 := Lib.hid h3
              replace h2 := Lib.hid h2
              replace h1 := Lib.hid h1
              clear lit nlit
              go_wp2
              go_roundw
              case rel => exact ⟨k + 1, by omega, by go_num, G, next.out (.inl (four_ne.2 (by simp [h4.out])))⟩
              case measure => simp [intOf]; omega
            · have nf : ¬ four s[k] = true := fun h => by rcases four_ne.1 h with h | h | h | h; exact h1 h; exact h2 h; exact h3 h; exact h4 h
              by_cases h5 : s[k] = 98
              · have e1 := lit 98 h5
                simp only [UInt8.reduceToNat] at e1
                by_cases hl : k + 1 = s.size
                · have e2 : (k : Int) = (s.size : Int) - 1 := by omega
                  have nx := next.out (.inr ⟨h5, hl⟩)
                  replace nx := Lib.hid nx
                  replace h5 := Lib.hid h5
                  replace hl := Lib.hid hl
                  clear lit nlit nf h1 h2 h3 h4 stop next
                  have e3 : ((k : Int) != (s.size : Int) - 1) = false := by rw [e2]; simp
                  replace e2 := Lib.hid e2
                  go_wp2
                  go_roundw
                  case rel => exact ⟨k + 1, by omega, by go_num, G, nx.out⟩
                  case measure => simp [intOf]; omega
                · have e2 : ((k : Int) != (s.size : Int) - 1) = true := by simp; omega
                  obtain rfl := stop.out (fun h => h.elim nf fun h => hl h.2)
                  replace h5 := Lib.hid h5
                  replace hl := Lib.hid hl
                  clear lit nlit nf h1 h2 h3 h4 stop next
                  go_wp2
                  go_ret
                  exact ⟨by simp, G⟩
              · have n1 : ((s[k].toNat : Int) != 105) = true := by have := nlit 105 h1; simpa using this
                have n2 : ((s[k].toNat : Int) != 117) = true := by have := nlit 117 h2; simpa using this
                have n3 : ((s[k].toNat : Int) != 115) = true := by have := nlit 115 h3; simpa using this
                have n4 : ((s[k].toNat : Int) != 114) = true := by have := nlit 114 h4; simpa using this
                have n5 : ((s[k].toNat : Int) != 98) = true := by have := nlit 98 h5; simpa using this
                obtain rfl := stop.out (fun h => h.elim nf fun h => h5 h.1)
                clear lit nlit nf h1 h2 h3 h4 h5 stop next
                go_wp2
                go_ret
                exact ⟨by simp, G⟩
    · have q1 : ¬ (k : Int) < s.size := by omega
      obtain rfl : b = true := hf.out.2 fun j c hjc => hall.out j c (by
        rcases Nat.lt_or_ge j k with h' | h'
        · exact h'
        · rw [List.getElem?_eq_none (by rw [hsz.out]; omega)] at hjc; cases hjc) hjc
      clear hall hf
      go_wp2
      go_ret
      exact ⟨by simp; omega, G⟩

end Go.Proofs.YthkbenhlhldglaaDoor
