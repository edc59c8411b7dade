/-
  What is proved: what 'from' of package region hands back, its capacity told.
-/
import Derived.Test.YtafceieenhogpaaE
namespace Go.Proofs.Ytafceieenhogpaa
open Go.RowKit Go.Sort

def RB2 (w : World) (A0 : Option Addr) (l0 : List BW) (C : Nat) (Q : List Bn → Prop) (e : Ending) (w' : World) : Prop := ∃ (A : Option Addr) (c : Nat) (l : List BW), e = .returned (.slice A l.length c) ∧ l.length ≤ c ∧ c ≤ C ∧ (∀ w0, Bs w0 A0 l0 → Bs w0 A l) ∧ Q (l.map BW.bn) ∧ w = w'

set_option maxHeartbeats 1000000 in
theorem from2 (A : Option Addr) (c : Nat) (l : List BW) (y : Int) (w : World) (h : Bs w A l) (hc : l.length ≤ c) (hl : c ≤ 9223372036854775807) :
    Calls Try.prog 114 #[.slice A l.length c, .int .i64 y] w (RB2 w A l c (fun E => E = fromL y (l.map BW.bn))) := by
  go_enter Try.func114, Try.ntmps114
  go_wp2
  go_loop [0] (fun v => ∃ (A' : Option Addr) (c' : Nat) (l' : List BW), v = .slice A' l'.length c' ∧ l'.length ≤ c' ∧ c' ≤ c ∧ (∀ w0, Bs w0 A l → Bs w0 A' l') ∧ Hid (fromL y (l'.map BW.bn) = fromL y (l.map BW.bn))) (fun v => match v with | .slice _ n _ => n | _ => 0)
  case atStart => exact ⟨A, c, l, rfl, hc, Nat.le_refl _, fun _ h => h, Lib.hid rfl⟩
  case round =>
    obtain ⟨A', c', l', rfl, hc', hcc, hB, hq⟩ := hrel
    have h' := hB w h
    cases l' with
    | nil =>
      go_wp2
      go_ret
      exact ⟨A', c', [], rfl, by simp, hcc, hB, hq.out, rfl⟩
    | cons r l' =>
      obtain ⟨b, off, rfl, hr⟩ := h'.opened (by simp)
      obtain ⟨e1, e2, e3⟩ := hr.at_ (k := 0) (r := r) rfl
      simp only [Nat.zero_mul, Nat.add_zero] at e1 e2 e3
      have HR := Lib.hid hr
      clear hr
      have hn : 0 < (r :: l').length := by simp
      obtain ⟨n, hN⟩ : ∃ n, n = (r :: l').length := ⟨_, rfl⟩
      rw [← hN] at hn hc' ⊢
      have HN := Lib.hid hN
      clear hN
      by_cases hy : r.y1 ≤ y
      · by_cases hc1 : c' = 1
        · go_wp2
          have hl' : l' = [] := List.eq_nil_of_length_eq_zero (by have := HN.out; simp at this; omega)
          subst hl'
          refine ⟨⟨some ⟨b, off, none⟩, 0, [], by have := HN.out; simp at this; subst this; rfl, by simp, by omega, fun _ _ => ⟨.inl rfl, by simp⟩, Lib.hid ?_⟩, ?_⟩
          · rw [← hq.out]; show fromL y [] = if r.y1 ≤ y then fromL y [] else _; rw [if_pos hy]
          · show n - 1 < n; omega
        · go_wp2
          have hn' : n - 1 = l'.length := by have := HN.out; simp at this; omega
          refine ⟨⟨some ⟨b, off + 3, none⟩, c' - 1, l', by rw [hn'], by omega, by omega, fun w0 h0 => Bs.tail (hB w0 h0), Lib.hid ?_⟩, ?_⟩
          · rw [← hq.out]; show fromL y (l'.map BW.bn) = if r.y1 ≤ y then fromL y (l'.map BW.bn) else _; rw [if_pos hy]
          · show n - 1 < n; omega
      · go_wp2
        go_ret
        exact ⟨some ⟨b, off, none⟩, c', r :: l', by rw [← HN.out]; rfl, by rw [← HN.out]; exact hc', hcc, hB, by show _ = _; rw [← hq.out]; show _ = if r.y1 ≤ y then _ else _; rw [if_neg (by omega)]; rfl, rfl⟩


end Go.Proofs.Ytafceieenhogpaa
