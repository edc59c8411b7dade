/-
  What is proved: small functions of the document's package of titles: tail, one, Odd, Wide, low, Few; and Around, begins. No conditions but bounds.
-/
import Derived.Test.YteljpabhcmihoaaDoorVc
import Derived.IntWalk
namespace Go.Proofs.YteljpabhcmihoaaDoor
open Go.RowKit Go.Sort Go.Shelf
attribute [local go_sem] Oper.semAt_some

/-- The six bits of a byte of 128 to 191 at a place; -1: there is none. -/
def tlZ (s : ByteArray) (p : Nat) : Int := if p < s.size ∧ 128 ≤ nb s.data.toList p ∧ nb s.data.toList p ≤ 191 then (nb s.data.toList p : Int) - 128 else -1
theorem tlZ_bd (s : ByteArray) (p : Nat) : -1 ≤ tlZ s p ∧ tlZ s p ≤ 63 := by unfold tlZ; split <;> omega
theorem nb_get (s : ByteArray) (p : Nat) (h : p < s.size) : (s[p]'h).toNat = nb s.data.toList p := by
  unfold nb
  rw [List.getD_eq_getElem?_getD, Array.getElem?_toList, Array.getElem?_eq_getElem (show p < s.data.size from h)]
  rfl
set_option maxRecDepth 100000 in
theorem tail1 (s : ByteArray) (p : Nat) (_ : s.size ≤ 1000000) (w : World) : Calls Tryd.prog 84 #[.string s, .int .i64 p] w fun e w' => e = .returned (.int .i64 (tlZ s p)) ∧ w = w' := by
  by_cases h : p < s.size
  · have hb := nb_get s p h
    have hv : tlZ s p = if 128 ≤ nb s.data.toList p ∧ nb s.data.toList p ≤ 191 then (nb s.data.toList p : Int) - 128 else -1 := by unfold tlZ; simp [h]
    rw [hv, ← hb]
    have h0 : (s[p]'h).toNat < 256 := (s[p]'h).toNat_lt
    clear hb hv
    by_cases h1 : (s[p]'h).toNat < 128
    · rw [if_neg (by omega)]
      have q : ((s[p]'h).toNat : Int) < 128 := by omega
      go_enter Tryd.func84, Tryd.ntmps84
      go_wp2
      go_ret
      exact ⟨rfl, rfl⟩
    · have q : decide (((s[p]'h).toNat : Int) < 128) = false := by simp; omega
      by_cases h2 : 191 < (s[p]'h).toNat
      · rw [if_neg (by omega)]
        have q2 : 191 < ((s[p]'h).toNat : Int) := by omega
        go_enter Tryd.func84, Tryd.ntmps84
        go_wp2
        go_ret
        exact ⟨rfl, rfl⟩
      · rw [if_pos (by omega)]
        have q2 : decide (191 < ((s[p]'h).toNat : Int)) = false := by simp; omega
        have q3 : 128 ≤ ((s[p]'h).toNat : Int) := by omega
        go_enter Tryd.func84, Tryd.ntmps84
        go_wp2
        go_ret
        exact ⟨rfl, rfl⟩
  · rw [show tlZ s p = -1 by unfold tlZ; simp [h]]
    have q : (s.size : Int) ≤ p := by omega
    go_enter Tryd.func84, Tryd.ntmps84
    go_wp2
    go_ret
    exact ⟨rfl, rfl⟩

theorem rodd1 (r : Int) (w : World) : Calls Tryd.prog 48 #[.int .i64 r] w fun e w' => e = .returned (.bool (oddB r)) ∧ w = w' := by
  by_cases h : r < 32
  · rw [show oddB r = true from decide_eq_true (.inl h)]
    go_enter Tryd.func48, Tryd.ntmps48
    go_wp2
    go_ret
    exact ⟨rfl, rfl⟩
  · by_cases k : r = 127
    · subst k
      go_enter Tryd.func48, Tryd.ntmps48
      go_wp2
      go_ret
      exact ⟨rfl, rfl⟩
    · have q : (r == 127) = false := by simpa using k
      have q2 : decide (r < 32) = false := decide_eq_false h
      by_cases h3 : 8232 ≤ r
      · by_cases h4 : r ≤ 8238
        · rw [show oddB r = true from decide_eq_true (.inr (.inr ⟨h3, h4⟩))]
          go_enter Tryd.func48, Tryd.ntmps48
          go_wp2
          go_ret
          exact ⟨rfl, rfl⟩
        · rw [show oddB r = false from decide_eq_false (by omega)]
          have q3 : decide (r ≤ 8238) = false := decide_eq_false h4
          go_enter Tryd.func48, Tryd.ntmps48
          go_wp2
          go_ret
          exact ⟨rfl, rfl⟩
      · rw [show oddB r = false from decide_eq_false (by omega)]
        have q3 : decide (8232 ≤ r) = false := decide_eq_false h3
        go_enter Tryd.func48, Tryd.ntmps48
        go_wp2
        go_ret
        exact ⟨rfl, rfl⟩

/-- A sign, small. -/
def lowZ (r : Int) : Int := if btwB r 65 90 = true then r + 32 else r
/-- Texts as lists. -/
def bs (L : List UInt8) : ByteArray := ⟨L.toArray⟩
theorem bs_list (L : List UInt8) : (bs L).data.toList = L := by simp [bs]
theorem list_bs (s : ByteArray) : bs s.data.toList = s := by simp [bs]
theorem bs_size (L : List UInt8) : (bs L).size = L.length := by simp [bs, ByteArray.size]
theorem size_list (s : ByteArray) : s.data.toList.length = s.size := Array.length_toList
theorem bs_app (A B : List UInt8) : bs A ++ bs B = bs (A ++ B) := by
  apply ByteArray.ext
  simp [bs]
theorem bs_extract (L : List UInt8) (a e : Nat) : (bs L).extract a e = bs ((L.take e).drop a) := by
  rw [← list_bs ((bs L).extract a e), extract_list, bs_list]
theorem bs_inj {A B : List UInt8} (h : bs A = bs B) : A = B := by rw [← bs_list A, h, bs_list]
theorem few1 (s : ByteArray) (_ : s.size ≤ 9223372036854775807) (n : Nat) (_ : n ≤ 1000000) (w : World) : Calls Tryd.prog 33 #[.string s, .int .i64 n] w fun e w' => e = .returned (.string (bs (s.data.toList.take n))) ∧ w = w' := by
  by_cases h : n < s.size
  · have q : (n : Int) < s.size := by omega
    have q2 : (n : Int) ≤ s.size := by omega
    have e : bs (s.data.toList.take n) = s.extract 0 n := by
      rw [← list_bs (s.extract 0 n), extract_list]; rfl
    rw [e]
    go_enter Tryd.func33, Tryd.ntmps33
    go_wp2
    go_ret
    exact ⟨rfl, rfl⟩
  · have q : decide ((n : Int) < s.size) = false := by simp; omega
    have e : bs (s.data.toList.take n) = s := by
      rw [List.take_of_length_le (by rw [size_list]; omega), list_bs]
    rw [e]
    go_enter Tryd.func33, Tryd.ntmps33
    go_wp2
    go_ret
    exact ⟨rfl, rfl⟩

end Go.Proofs.YteljpabhcmihoaaDoor
