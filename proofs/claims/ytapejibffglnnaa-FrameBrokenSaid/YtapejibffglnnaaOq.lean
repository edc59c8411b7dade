/-
  What is proved: what a reader that is broken tells; a length that breaks, told byte by byte. No conditions.
-/
import Derived.Test.YtapejibffglnnaaOl
import Derived.Test.YtapejibffglnnaaOp
namespace Go.Proofs.Ytapejibffglnnaa
open Go.ChangeShapes Go.WideShapes Go.ChangeAt Go.RowKit Go.Joins Go.Sort

set_option maxRecDepth 100000 in
theorem put_brk (r : Nat) (A : Option Addr) (c : Nat) (v : Value) (M : List Int) (w : World) (h : At w r #[.slice A 0 c, .bool true] 45) (hm : c ≤ maxLen) (hn : A = none → c = 0) :
    Calls Try.prog 24 #[.pointer (some ⟨r, 0, none⟩), v] w (PuQ w r [] true M) := by
  have h0 := h.cell 0
  have h1 := h.cell 1
  simp only [List.getElem?_toArray, List.getElem?_cons_zero, List.getElem?_cons_succ] at h0 h1
  have hb : putB [] true M = true := rfl
  have hl : putL [] true M = [] := by unfold putL; rw [hb]; rfl
  go_enter Try.func24, Try.ntmps24
  go_wp2
  go_ret
  exact ⟨none, 0, [], A, c, rfl, rfl, ⟨.inl rfl, fun p hp => by simp at hp⟩, fun _ => rfl, Fr.nil _, by rw [hb, hl]; exact h, by rw [hl]; exact ⟨A, c, rfl, hn, Nat.zero_le _, hm, .inl rfl⟩, .inl hl, By.refl _ _⟩
theorem spl_one (x : Int) : spl [x] = ([], 0, eS) := by
  have h : rdE [x] = eS := by unfold rdE; rw [if_pos (by simp)]
  rw [spl_bad (by simp) (by rw [h]; exact eSF.2.1), h]
theorem put_one (x : Int) : putM [] false [x] = [] ∧ putB [] false [x] = false ∧ putL [] false [x] = [x] := by
  have h := spl_one x
  have e : putB [] false [x] = false := by
    unfold putB; rw [List.nil_append, h]; simp [eSF.1]
  refine ⟨?_, e, ?_⟩
  · unfold putM; rw [List.nil_append, h]; rfl
  · unfold putL; rw [e, List.nil_append, h]; rfl
theorem spl_two {x y : Int} (h : x * 256 + y < 7 ∨ 4103 < x * 256 + y) : spl [x, y] = ([], 0, eF) := by
  have h : rdE [x, y] = eF := rd_form.2 ⟨by simp, by unfold hdN; simpa using h⟩
  rw [spl_bad (by simp) (by rw [h]; exact eSF.2.2), h]
theorem put_two {x y : Int} (h : x * 256 + y < 7 ∨ 4103 < x * 256 + y) : putM [x] false [y] = [] ∧ putB [x] false [y] = true ∧ putL [x] false [y] = [] := by
  have h := spl_two h
  have e : putB [x] false [y] = true := by
    unfold putB; rw [List.singleton_append, h]; simp
  refine ⟨?_, e, ?_⟩
  · unfold putM; rw [List.singleton_append, h]; rfl
  · unfold putL; rw [e]; rfl
theorem put_more (M : List Int) : putM [] true M = [] ∧ putB [] true M = true ∧ putL [] true M = [] := ⟨rfl, rfl, rfl⟩

end Go.Proofs.Ytapejibffglnnaa
