/-
  What is proved: small functions of the document's package of titles: tail, one, Odd, Wide, low, Few; and Around, begins. No conditions but bounds.
-/
import Derived.Test.YtcfckhelpnielaaVc
import Derived.IntWalk
namespace Go.Proofs.Ytcfckhelpnielaa
open Go.RowKit Go.Sort Go.Shelf
attribute [local go_sem] Oper.semAt_some

/-- The six bits of a byte of 128 to 191 at a place; -1: there is none. -/
def tlZ (s : ByteArray) (p : Nat) : Int := if p < s.size ∧ 128 ≤ nb s.data.toList p ∧ nb s.data.toList p ≤ 191 then (nb s.data.toList p : Int) - 128 else -1
theorem tlZ_bd (s : ByteArray) (p : Nat) : -1 ≤ tlZ s p ∧ tlZ s p ≤ 63 := by unfold tlZ; split <;> omega
theorem nb_get (s : ByteArray) (p : Nat) (h : p < s.size) : (s[p]'h).toNat = nb s.data.toList p := by
  unfold nb
  rw [List.getD_eq_getElem?_getD, Array.getElem?_toList, Array.getElem?_eq_getElem (show p < s.data.size from h)]
  rfl
set_option maxRecDepth 100000 in
theorem tail1 (s : ByteArray) (p : Nat) (_ : s.size ≤ 1000000) (w : World) : Calls Try.prog 41 #[.string s, .int .i64 p] w fun e w' => e = .returned (.int .i64 (tlZ s p)) ∧ w = w' := by
  by_cases h : p < s.size
  · have hb := nb_get s p h
    have hv : tlZ s p = if 128 ≤ nb s.data.toList p ∧ nb s.data.toList p ≤ 191 then (nb s.data.toList p : Int) - 128 else -1 := by unfold tlZ; simp [h]
    rw [hv, ← hb]
    have h0 : (s[p]'h).toNat < 256 := (s[p]'h).toNat_lt
    clear hb hv
    by_cases h1 : (s[p]'h).toNat < 128
    · rw [if_neg (by omega)]
      have q : ((s[p]'h).toNat : Int) < 128 := by omega
      go_enter Try.func41, Try.ntmps41
      go_wp2
      go_ret
      exact ⟨rfl, rfl⟩
    · have q : decide (((s[p]'h).toNat : Int) < 128) = false := by simp; omega
      by_cases h2 : 191 < (s[p]'h).toNat
      · rw [if_neg (by omega)]
        have q2 : 191 < ((s[p]'h).toNat : Int) := by omega
        go_enter Try.func41, Try.ntmps41
        go_wp2
        go_ret
        exact ⟨rfl, rfl⟩
      · rw [if_pos (by omega)]
        have q2 : decide (191 < ((s[p]'h).toNat : Int)) = false := by simp; omega
        have q3 : 128 ≤ ((s[p]'h).toNat : Int) := by omega
        go_enter Try.func41, Try.ntmps41
        go_wp2
        go_ret
        exact ⟨rfl, rfl⟩
  · rw [show tlZ s p = -1 by unfold tlZ; simp [h]]
    have q : (s.size : Int) ≤ p := by omega
    go_enter Try.func41, Try.ntmps41
    go_wp2
    go_ret
    exact ⟨rfl, rfl⟩

theorem rodd1 (r : Int) (w : World) : Calls Try.prog 37 #[.int .i64 r] w fun e w' => e = .returned (.bool (oddB r)) ∧ w = w' := by
  by_cases h : r < 32
  · rw [show oddB r = true from decide_eq_true (.inl h)]
    go_enter Try.func37, Try.ntmps37
    go_wp2
    go_ret
    exact ⟨rfl, rfl⟩
  · by_cases k : r = 127
    · subst k
      go_enter Try.func37, Try.ntmps37
      go_wp2
      go_ret
      exact ⟨rfl, rfl⟩
    · have q : (r == 127) = false := by simpa using k
      have q2 : decide (r < 32) = false := decide_eq_false h
      by_cases h3 : 8232 ≤ r
      · by_cases h4 : r ≤ 8238
        · rw [show oddB r = true from decide_eq_true (.inr (.inr ⟨h3, h4⟩))]
          go_enter Try.func37, Try.ntmps37
          go_wp2
          go_ret
          exact ⟨rfl, rfl⟩
        · rw [show oddB r = false from decide_eq_false (by omega)]
          have q3 : decide (r ≤ 8238) = false := decide_eq_false h4
          go_enter Try.func37, Try.ntmps37
          go_wp2
          go_ret
          exact ⟨rfl, rfl⟩
      · rw [show oddB r = false from decide_eq_false (by omega)]
        have q3 : decide (8232 ≤ r) = false := decide_eq_false h3
        go_enter Try.func37, Try.ntmps37
        go_wp2
        go_ret
        exact ⟨rfl, rfl⟩

/-- A sign, small. -/
def lowZ (r : Int) : Int := if btwB r 65 90 = true then r + 32 else r
theorem rlow1 (r : Int) (h0 : 0 ≤ r) (h1 : r ≤ 1114111) (w : World) : Calls Try.prog 40 #[.int .i64 r] w fun e w' => e = .returned (.int .i64 (lowZ r)) ∧ w = w' := by
  unfold lowZ btwB
  by_cases h : 65 ≤ r
  · by_cases k : r ≤ 90
    · rw [if_pos (decide_eq_true ⟨h, k⟩)]
      go_enter Try.func40, Try.ntmps40
      go_wp2
      go_ret
      exact ⟨rfl, rfl⟩
    · rw [if_neg (by simp; omega)]
      have q : decide (r ≤ 90) = false := decide_eq_false k
      go_enter Try.func40, Try.ntmps40
      go_wp2
      go_ret
      exact ⟨rfl, rfl⟩
  · rw [if_neg (by simp; omega)]
    have q : decide (65 ≤ r) = false := decide_eq_false h
    go_enter Try.func40, Try.ntmps40
    go_wp2
    go_ret
    exact ⟨rfl, rfl⟩

/-- Texts as lists. -/
def bs (L : List UInt8) : ByteArray := ⟨L.toArray⟩
theorem bs_list (L : List UInt8) : (bs L).data.toList = L := by simp [bs]
theorem list_bs (s : ByteArray) : bs s.data.toList = s := by simp [bs]
theorem bs_size (L : List UInt8) : (bs L).size = L.length := by simp [bs, ByteArray.size]
theorem size_list (s : ByteArray) : s.data.toList.length = s.size := Array.length_toList
theorem bs_app (A B : List UInt8) : bs A ++ bs B = bs (A ++ B) := by
  apply ByteArray.ext
  simp [bs]
theorem bs_extract (L : List UInt8) (a e : Nat) : (bs L).extract a e = bs ((L.take e).drop a) := by
  rw [← list_bs ((bs L).extract a e), extract_list, bs_list]
theorem bs_inj {A B : List UInt8} (h : bs A = bs B) : A = B := by rw [← bs_list A, h, bs_list]
theorem few1 (s : ByteArray) (_ : s.size ≤ 9223372036854775807) (n : Nat) (_ : n ≤ 1000000) (w : World) : Calls Try.prog 11 #[.string s, .int .i64 n] w fun e w' => e = .returned (.string (bs (s.data.toList.take n))) ∧ w = w' := by
  by_cases h : n < s.size
  · have q : (n : Int) < s.size := by omega
    have q2 : (n : Int) ≤ s.size := by omega
    have e : bs (s.data.toList.take n) = s.extract 0 n := by
      rw [← list_bs (s.extract 0 n), extract_list]; rfl
    rw [e]
    go_enter Try.func11, Try.ntmps11
    go_wp2
    go_ret
    exact ⟨rfl, rfl⟩
  · have q : decide ((n : Int) < s.size) = false := by simp; omega
    have e : bs (s.data.toList.take n) = s := by
      rw [List.take_of_length_le (by rw [size_list]; omega), list_bs]
    rw [e]
    go_enter Try.func11, Try.ntmps11
    go_wp2
    go_ret
    exact ⟨rfl, rfl⟩

theorem begins1 (s t : ByteArray) (_ : s.size ≤ 1000000) (_ : t.size ≤ 1000000) (hp : t.data.toList <+: s.data.toList) (w : World) : Calls Try.prog 28 #[.string s, .string t] w fun e w' => e = .returned (.bool true) ∧ w = w' := by
  have hl := hp.length_le
  rw [size_list, size_list] at hl
  have q : decide ((s.size : Int) < t.size) = false := by simp; omega
  have q2 : (t.size : Int) ≤ s.size := by omega
  have e : s.extract 0 t.size = t := by
    have hh := List.prefix_iff_eq_take.1 hp
    rw [size_list] at hh
    rw [← list_bs (s.extract 0 t.size), extract_list, List.drop_zero, ← hh, list_bs]
  clear hp hl
  go_enter Try.func28, Try.ntmps28
  go_wp2
  go_ret
  exact ⟨by simp, rfl⟩

set_option maxRecDepth 100000 in
set_option maxHeartbeats 4000000 in
theorem rwide1 (r : Int) (w : World) : Calls Try.prog 32 #[.int .i64 r] w (Rt w (.int .i64 (widZ r))) := by
  have G1 : Gr w ((w.alloc (.cells #[.int .i64 4352, .int .i64 11904, .int .i64 44032, .int .i64 65280, .int .i64 127744] 3)).alloc (.cells #[.int .i64 4447, .int .i64 42191, .int .i64 55203, .int .i64 65376, .int .i64 129791] 3)) := ((Gr.refl w).alloc _).alloc _
  have A1 := (At.new w #[.int .i64 4352, .int .i64 11904, .int .i64 44032, .int .i64 65280, .int .i64 127744] 3).alloc (.cells #[.int .i64 4447, .int .i64 42191, .int .i64 55203, .int .i64 65376, .int .i64 129791] 3)
  have A2 := At.newAt (w := w.alloc (.cells #[.int .i64 4352, .int .i64 11904, .int .i64 44032, .int .i64 65280, .int .i64 127744] 3)) (n := w.heap.size + 1) (by simp) #[.int .i64 4447, .int .i64 42191, .int .i64 55203, .int .i64 65376, .int .i64 129791] 3
  by_cases h0gap : r ≤ 767
  · have hlo : True := trivial
    have hv : widZ r = 1 := by
      unfold widZ btwB
      rw [if_neg (by simp; omega)]
      rw [if_neg (by simp; omega)]
      rw [if_neg (by simp; omega)]
      rw [if_neg (by simp; omega)]
      rw [if_neg (by simp; omega)]
      rw [if_neg (by simp; omega)]
    rw [hv]
    clear hv
    have f0a : decide ((768 : Int) ≤ r) = false := by simp; omega
    have f0b : r ≤ (879 : Int) := by omega
    have f1a : decide ((4352 : Int) ≤ r) = false := by simp; omega
    have f1b : r ≤ (4447 : Int) := by omega
    have f2a : decide ((11904 : Int) ≤ r) = false := by simp; omega
    have f2b : r ≤ (42191 : Int) := by omega
    have f3a : decide ((44032 : Int) ≤ r) = false := by simp; omega
    have f3b : r ≤ (55203 : Int) := by omega
    have f4a : decide ((65280 : Int) ≤ r) = false := by simp; omega
    have f4b : r ≤ (65376 : Int) := by omega
    have f5a : decide ((127744 : Int) ≤ r) = false := by simp; omega
    have f5b : r ≤ (129791 : Int) := by omega
    go_enter Try.func32, Try.ntmps32
    go_wp2
    refine wp_loop_rounds 6 ?_
    rw [rounds_succ]; go_wp2
    rw [rounds_succ]; go_wp2
    rw [rounds_succ]; go_wp2
    rw [rounds_succ]; go_wp2
    rw [rounds_succ]; go_wp2
    rw [rounds_succ]; go_wp2
    go_ret
    exact ⟨rfl, G1⟩
  by_cases h0in : r ≤ 879
  · have hlo : True := trivial
    have hv : widZ r = 0 := by
      unfold widZ btwB
      rw [if_pos (decide_eq_true (by omega))]
    rw [hv]
    clear hv
    have f0a : (768 : Int) ≤ r := by omega
    have f0b : r ≤ (879 : Int) := by omega
    have f1a : decide ((4352 : Int) ≤ r) = false := by simp; omega
    have f1b : r ≤ (4447 : Int) := by omega
    have f2a : decide ((11904 : Int) ≤ r) = false := by simp; omega
    have f2b : r ≤ (42191 : Int) := by omega
    have f3a : decide ((44032 : Int) ≤ r) = false := by simp; omega
    have f3b : r ≤ (55203 : Int) := by omega
    have f4a : decide ((65280 : Int) ≤ r) = false := by simp; omega
    have f4b : r ≤ (65376 : Int) := by omega
    have f5a : decide ((127744 : Int) ≤ r) = false := by simp; omega
    have f5b : r ≤ (129791 : Int) := by omega
    go_enter Try.func32, Try.ntmps32
    go_wp2
    go_ret
    exact ⟨rfl, G1⟩
  by_cases h1gap : r ≤ 4351
  · have hlo : True := trivial
    have hv : widZ r = 1 := by
      unfold widZ btwB
      rw [if_neg (by simp; omega)]
      rw [if_neg (by simp; omega)]
      rw [if_neg (by simp; omega)]
      rw [if_neg (by simp; omega)]
      rw [if_neg (by simp; omega)]
      rw [if_neg (by simp; omega)]
    rw [hv]
    clear hv
    have f0a : (768 : Int) ≤ r := by omega
    have f0b : decide (r ≤ (879 : Int)) = false := by simp; omega
    have f1a : decide ((4352 : Int) ≤ r) = false := by simp; omega
    have f1b : r ≤ (4447 : Int) := by omega
    have f2a : decide ((11904 : Int) ≤ r) = false := by simp; omega
    have f2b : r ≤ (42191 : Int) := by omega
    have f3a : decide ((44032 : Int) ≤ r) = false := by simp; omega
    have f3b : r ≤ (55203 : Int) := by omega
    have f4a : decide ((65280 : Int) ≤ r) = false := by simp; omega
    have f4b : r ≤ (65376 : Int) := by omega
    have f5a : decide ((127744 : Int) ≤ r) = false := by simp; omega
    have f5b : r ≤ (129791 : Int) := by omega
    go_enter Try.func32, Try.ntmps32
    go_wp2
    refine wp_loop_rounds 6 ?_
    rw [rounds_succ]; go_wp2
    rw [rounds_succ]; go_wp2
    rw [rounds_succ]; go_wp2
    rw [rounds_succ]; go_wp2
    rw [rounds_succ]; go_wp2
    rw [rounds_succ]; go_wp2
    go_ret
    exact ⟨rfl, G1⟩
  by_cases h1in : r ≤ 4447
  · have hlo : True := trivial
    have hv : widZ r = 2 := by
      unfold widZ btwB
      rw [if_neg (by simp; omega)]
      rw [if_pos (decide_eq_true (by omega))]
    rw [hv]
    clear hv
    have f0a : (768 : Int) ≤ r := by omega
    have f0b : decide (r ≤ (879 : Int)) = false := by simp; omega
    have f1a : (4352 : Int) ≤ r := by omega
    have f1b : r ≤ (4447 : Int) := by omega
    have f2a : decide ((11904 : Int) ≤ r) = false := by simp; omega
    have f2b : r ≤ (42191 : Int) := by omega
    have f3a : decide ((44032 : Int) ≤ r) = false := by simp; omega
    have f3b : r ≤ (55203 : Int) := by omega
    have f4a : decide ((65280 : Int) ≤ r) = false := by simp; omega
    have f4b : r ≤ (65376 : Int) := by omega
    have f5a : decide ((127744 : Int) ≤ r) = false := by simp; omega
    have f5b : r ≤ (129791 : Int) := by omega
    go_enter Try.func32, Try.ntmps32
    go_wp2
    refine wp_loop_rounds 6 ?_
    rw [rounds_succ]; go_wp2
    go_ret
    exact ⟨rfl, G1⟩
  by_cases h2gap : r ≤ 11903
  · have hlo : True := trivial
    have hv : widZ r = 1 := by
      unfold widZ btwB
      rw [if_neg (by simp; omega)]
      rw [if_neg (by simp; omega)]
      rw [if_neg (by simp; omega)]
      rw [if_neg (by simp; omega)]
      rw [if_neg (by simp; omega)]
      rw [if_neg (by simp; omega)]
    rw [hv]
    clear hv
    have f0a : (768 : Int) ≤ r := by omega
    have f0b : decide (r ≤ (879 : Int)) = false := by simp; omega
    have f1a : (4352 : Int) ≤ r := by omega
    have f1b : decide (r ≤ (4447 : Int)) = false := by simp; omega
    have f2a : decide ((11904 : Int) ≤ r) = false := by simp; omega
    have f2b : r ≤ (42191 : Int) := by omega
    have f3a : decide ((44032 : Int) ≤ r) = false := by simp; omega
    have f3b : r ≤ (55203 : Int) := by omega
    have f4a : decide ((65280 : Int) ≤ r) = false := by simp; omega
    have f4b : r ≤ (65376 : Int) := by omega
    have f5a : decide ((127744 : Int) ≤ r) = false := by simp; omega
    have f5b : r ≤ (129791 : Int) := by omega
    go_enter Try.func32, Try.ntmps32
    go_wp2
    refine wp_loop_rounds 6 ?_
    rw [rounds_succ]; go_wp2
    rw [rounds_succ]; go_wp2
    rw [rounds_succ]; go_wp2
    rw [rounds_succ]; go_wp2
    rw [rounds_succ]; go_wp2
    rw [rounds_succ]; go_wp2
    go_ret
    exact ⟨rfl, G1⟩
  by_cases h2in : r ≤ 42191
  · have hlo : True := trivial
    have hv : widZ r = 2 := by
      unfold widZ btwB
      rw [if_neg (by simp; omega)]
      rw [if_neg (by simp; omega)]
      rw [if_pos (decide_eq_true (by omega))]
    rw [hv]
    clear hv
    have f0a : (768 : Int) ≤ r := by omega
    have f0b : decide (r ≤ (879 : Int)) = false := by simp; omega
    have f1a : (4352 : Int) ≤ r := by omega
    have f1b : decide (r ≤ (4447 : Int)) = false := by simp; omega
    have f2a : (11904 : Int) ≤ r := by omega
    have f2b : r ≤ (42191 : Int) := by omega
    have f3a : decide ((44032 : Int) ≤ r) = false := by simp; omega
    have f3b : r ≤ (55203 : Int) := by omega
    have f4a : decide ((65280 : Int) ≤ r) = false := by simp; omega
    have f4b : r ≤ (65376 : Int) := by omega
    have f5a : decide ((127744 : Int) ≤ r) = false := by simp; omega
    have f5b : r ≤ (129791 : Int) := by omega
    go_enter Try.func32, Try.ntmps32
    go_wp2
    refine wp_loop_rounds 6 ?_
    rw [rounds_succ]; go_wp2
    rw [rounds_succ]; go_wp2
    go_ret
    exact ⟨rfl, G1⟩
  by_cases h3gap : r ≤ 44031
  · have hlo : True := trivial
    have hv : widZ r = 1 := by
      unfold widZ btwB
      rw [if_neg (by simp; omega)]
      rw [if_neg (by simp; omega)]
      rw [if_neg (by simp; omega)]
      rw [if_neg (by simp; omega)]
      rw [if_neg (by simp; omega)]
      rw [if_neg (by simp; omega)]
    rw [hv]
    clear hv
    have f0a : (768 : Int) ≤ r := by omega
    have f0b : decide (r ≤ (879 : Int)) = false := by simp; omega
    have f1a : (4352 : Int) ≤ r := by omega
    have f1b : decide (r ≤ (4447 : Int)) = false := by simp; omega
    have f2a : (11904 : Int) ≤ r := by omega
    have f2b : decide (r ≤ (42191 : Int)) = false := by simp; omega
    have f3a : decide ((44032 : Int) ≤ r) = false := by simp; omega
    have f3b : r ≤ (55203 : Int) := by omega
    have f4a : decide ((65280 : Int) ≤ r) = false := by simp; omega
    have f4b : r ≤ (65376 : Int) := by omega
    have f5a : decide ((127744 : Int) ≤ r) = false := by simp; omega
    have f5b : r ≤ (129791 : Int) := by omega
    go_enter Try.func32, Try.ntmps32
    go_wp2
    refine wp_loop_rounds 6 ?_
    rw [rounds_succ]; go_wp2
    rw [rounds_succ]; go_wp2
    rw [rounds_succ]; go_wp2
    rw [rounds_succ]; go_wp2
    rw [rounds_succ]; go_wp2
    rw [rounds_succ]; go_wp2
    go_ret
    exact ⟨rfl, G1⟩
  by_cases h3in : r ≤ 55203
  · have hlo : True := trivial
    have hv : widZ r = 2 := by
      unfold widZ btwB
      rw [if_neg (by simp; omega)]
      rw [if_neg (by simp; omega)]
      rw [if_neg (by simp; omega)]
      rw [if_pos (decide_eq_true (by omega))]
    rw [hv]
    clear hv
    have f0a : (768 : Int) ≤ r := by omega
    have f0b : decide (r ≤ (879 : Int)) = false := by simp; omega
    have f1a : (4352 : Int) ≤ r := by omega
    have f1b : decide (r ≤ (4447 : Int)) = false := by simp; omega
    have f2a : (11904 : Int) ≤ r := by omega
    have f2b : decide (r ≤ (42191 : Int)) = false := by simp; omega
    have f3a : (44032 : Int) ≤ r := by omega
    have f3b : r ≤ (55203 : Int) := by omega
    have f4a : decide ((65280 : Int) ≤ r) = false := by simp; omega
    have f4b : r ≤ (65376 : Int) := by omega
    have f5a : decide ((127744 : Int) ≤ r) = false := by simp; omega
    have f5b : r ≤ (129791 : Int) := by omega
    go_enter Try.func32, Try.ntmps32
    go_wp2
    refine wp_loop_rounds 6 ?_
    rw [rounds_succ]; go_wp2
    rw [rounds_succ]; go_wp2
    rw [rounds_succ]; go_wp2
    go_ret
    exact ⟨rfl, G1⟩
  by_cases h4gap : r ≤ 65279
  · have hlo : True := trivial
    have hv : widZ r = 1 := by
      unfold widZ btwB
      rw [if_neg (by simp; omega)]
      rw [if_neg (by simp; omega)]
      rw [if_neg (by simp; omega)]
      rw [if_neg (by simp; omega)]
      rw [if_neg (by simp; omega)]
      rw [if_neg (by simp; omega)]
    rw [hv]
    clear hv
    have f0a : (768 : Int) ≤ r := by omega
    have f0b : decide (r ≤ (879 : Int)) = false := by simp; omega
    have f1a : (4352 : Int) ≤ r := by omega
    have f1b : decide (r ≤ (4447 : Int)) = false := by simp; omega
    have f2a : (11904 : Int) ≤ r := by omega
    have f2b : decide (r ≤ (42191 : Int)) = false := by simp; omega
    have f3a : (44032 : Int) ≤ r := by omega
    have f3b : decide (r ≤ (55203 : Int)) = false := by simp; omega
    have f4a : decide ((65280 : Int) ≤ r) = false := by simp; omega
    have f4b : r ≤ (65376 : Int) := by omega
    have f5a : decide ((127744 : Int) ≤ r) = false := by simp; omega
    have f5b : r ≤ (129791 : Int) := by omega
    go_enter Try.func32, Try.ntmps32
    go_wp2
    refine wp_loop_rounds 6 ?_
    rw [rounds_succ]; go_wp2
    rw [rounds_succ]; go_wp2
    rw [rounds_succ]; go_wp2
    rw [rounds_succ]; go_wp2
    rw [rounds_succ]; go_wp2
    rw [rounds_succ]; go_wp2
    go_ret
    exact ⟨rfl, G1⟩
  by_cases h4in : r ≤ 65376
  · have hlo : True := trivial
    have hv : widZ r = 2 := by
      unfold widZ btwB
      rw [if_neg (by simp; omega)]
      rw [if_neg (by simp; omega)]
      rw [if_neg (by simp; omega)]
      rw [if_neg (by simp; omega)]
      rw [if_pos (decide_eq_true (by omega))]
    rw [hv]
    clear hv
    have f0a : (768 : Int) ≤ r := by omega
    have f0b : decide (r ≤ (879 : Int)) = false := by simp; omega
    have f1a : (4352 : Int) ≤ r := by omega
    have f1b : decide (r ≤ (4447 : Int)) = false := by simp; omega
    have f2a : (11904 : Int) ≤ r := by omega
    have f2b : decide (r ≤ (42191 : Int)) = false := by simp; omega
    have f3a : (44032 : Int) ≤ r := by omega
    have f3b : decide (r ≤ (55203 : Int)) = false := by simp; omega
    have f4a : (65280 : Int) ≤ r := by omega
    have f4b : r ≤ (65376 : Int) := by omega
    have f5a : decide ((127744 : Int) ≤ r) = false := by simp; omega
    have f5b : r ≤ (129791 : Int) := by omega
    go_enter Try.func32, Try.ntmps32
    go_wp2
    refine wp_loop_rounds 6 ?_
    rw [rounds_succ]; go_wp2
    rw [rounds_succ]; go_wp2
    rw [rounds_succ]; go_wp2
    rw [rounds_succ]; go_wp2
    go_ret
    exact ⟨rfl, G1⟩
  by_cases h5gap : r ≤ 127743
  · have hlo : True := trivial
    have hv : widZ r = 1 := by
      unfold widZ btwB
      rw [if_neg (by simp; omega)]
      rw [if_neg (by simp; omega)]
      rw [if_neg (by simp; omega)]
      rw [if_neg (by simp; omega)]
      rw [if_neg (by simp; omega)]
      rw [if_neg (by simp; omega)]
    rw [hv]
    clear hv
    have f0a : (768 : Int) ≤ r := by omega
    have f0b : decide (r ≤ (879 : Int)) = false := by simp; omega
    have f1a : (4352 : Int) ≤ r := by omega
    have f1b : decide (r ≤ (4447 : Int)) = false := by simp; omega
    have f2a : (11904 : Int) ≤ r := by omega
    have f2b : decide (r ≤ (42191 : Int)) = false := by simp; omega
    have f3a : (44032 : Int) ≤ r := by omega
    have f3b : decide (r ≤ (55203 : Int)) = false := by simp; omega
    have f4a : (65280 : Int) ≤ r := by omega
    have f4b : decide (r ≤ (65376 : Int)) = false := by simp; omega
    have f5a : decide ((127744 : Int) ≤ r) = false := by simp; omega
    have f5b : r ≤ (129791 : Int) := by omega
    go_enter Try.func32, Try.ntmps32
    go_wp2
    refine wp_loop_rounds 6 ?_
    rw [rounds_succ]; go_wp2
    rw [rounds_succ]; go_wp2
    rw [rounds_succ]; go_wp2
    rw [rounds_succ]; go_wp2
    rw [rounds_succ]; go_wp2
    rw [rounds_succ]; go_wp2
    go_ret
    exact ⟨rfl, G1⟩
  by_cases h5in : r ≤ 129791
  · have hlo : True := trivial
    have hv : widZ r = 2 := by
      unfold widZ btwB
      rw [if_neg (by simp; omega)]
      rw [if_neg (by simp; omega)]
      rw [if_neg (by simp; omega)]
      rw [if_neg (by simp; omega)]
      rw [if_neg (by simp; omega)]
      rw [if_pos (decide_eq_true (by omega))]
    rw [hv]
    clear hv
    have f0a : (768 : Int) ≤ r := by omega
    have f0b : decide (r ≤ (879 : Int)) = false := by simp; omega
    have f1a : (4352 : Int) ≤ r := by omega
    have f1b : decide (r ≤ (4447 : Int)) = false := by simp; omega
    have f2a : (11904 : Int) ≤ r := by omega
    have f2b : decide (r ≤ (42191 : Int)) = false := by simp; omega
    have f3a : (44032 : Int) ≤ r := by omega
    have f3b : decide (r ≤ (55203 : Int)) = false := by simp; omega
    have f4a : (65280 : Int) ≤ r := by omega
    have f4b : decide (r ≤ (65376 : Int)) = false := by simp; omega
    have f5a : (127744 : Int) ≤ r := by omega
    have f5b : r ≤ (129791 : Int) := by omega
    go_enter Try.func32, Try.ntmps32
    go_wp2
    refine wp_loop_rounds 6 ?_
    rw [rounds_succ]; go_wp2
    rw [rounds_succ]; go_wp2
    rw [rounds_succ]; go_wp2
    rw [rounds_succ]; go_wp2
    rw [rounds_succ]; go_wp2
    go_ret
    exact ⟨rfl, G1⟩
  have hlo : True := trivial
  have hv : widZ r = 1 := by
    unfold widZ btwB
    rw [if_neg (by simp; omega)]
    rw [if_neg (by simp; omega)]
    rw [if_neg (by simp; omega)]
    rw [if_neg (by simp; omega)]
    rw [if_neg (by simp; omega)]
    rw [if_neg (by simp; omega)]
  rw [hv]
  clear hv
  have f0a : (768 : Int) ≤ r := by omega
  have f0b : decide (r ≤ (879 : Int)) = false := by simp; omega
  have f1a : (4352 : Int) ≤ r := by omega
  have f1b : decide (r ≤ (4447 : Int)) = false := by simp; omega
  have f2a : (11904 : Int) ≤ r := by omega
  have f2b : decide (r ≤ (42191 : Int)) = false := by simp; omega
  have f3a : (44032 : Int) ≤ r := by omega
  have f3b : decide (r ≤ (55203 : Int)) = false := by simp; omega
  have f4a : (65280 : Int) ≤ r := by omega
  have f4b : decide (r ≤ (65376 : Int)) = false := by simp; omega
  have f5a : (127744 : Int) ≤ r := by omega
  have f5b : decide (r ≤ (129791 : Int)) = false := by simp; omega
  go_enter Try.func32, Try.ntmps32
  go_wp2
  refine wp_loop_rounds 6 ?_
  rw [rounds_succ]; go_wp2
  rw [rounds_succ]; go_wp2
  rw [rounds_succ]; go_wp2
  rw [rounds_succ]; go_wp2
  rw [rounds_succ]; go_wp2
  rw [rounds_succ]; go_wp2
  go_ret
  exact ⟨rfl, G1⟩

end Go.Proofs.Ytcfckhelpnielaa
