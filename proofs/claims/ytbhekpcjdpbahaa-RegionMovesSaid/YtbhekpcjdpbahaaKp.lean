/-
  What is proved: what region.Keep hands back: nothing, the one rectangle round all, or a copy.
-/
import Derived.Test.YtbhekpcjdpbahaaAa
import Derived.Test.YtbhekpcjdpbahaaH2
import Derived.Test.YtbhekpcjdpbahaaY
import Derived.WalkSpells
namespace Go.Proofs.Ytbhekpcjdpbahaa
open Go.RowKit Go.Sort

/-- A slice without elements, appended to a row of the call's own. -/
theorem run_app_empty {w : World} {B : Nat} {t ty e : TypeId} {i : TypeInfo} {size : Nat} (ht : Try.prog.underlying t = some (.slice e)) (hi : Try.prog.info? e = some i)
    {v : Value} {n : Nat} {xs : List Value} (hown : w.ownsRow B e size v n xs) (a : Option Addr) (c : Nat) (hac : a = none → c = 0) :
    (Builtin.append_ #[t, t] ty #[v, .slice a 0 c]).run Try.prog w = .ok v w := by
  cases a with
  | none => obtain rfl := hac rfl; exact run_append_owned_none w B t ty e i size ht hi v n xs hown
  | some a =>
    have hl : (loadCells a 0).run Try.prog w = .ok #[] w := by simpa using run_loadCells_list (P := Try.prog) w a [] (by simp)
    rcases hown.2 with ⟨rfl, rfl⟩ | ⟨g, cap, cur, rfl, _, _, hnc, _⟩
    · simp [Builtin.append_, run_underlying ht, sizeOf, typeInfo, hi, Builtin.lenOf, Builtin.firstCells, hl]
    · simp [Builtin.append_, run_underlying ht, sizeOf, typeInfo, hi, Builtin.lenOf, Builtin.firstCells, hl, hnc, storeCells]

theorem RowR.cells {w : World} {b off : Nat} {L : List Rc} (h : RowR w b off L) : ∀ (j : Nat) (u : Value), (cR L)[j]? = some u → w.cell? (Addr.add ⟨b, off, none⟩ j) = some u := by
  intro j u hj
  have hl : j < L.length * 4 := by have := get_lt hj; rwa [cR_len] at this
  obtain ⟨r, hr⟩ := list_at (l := L) (k := j / 4) (by omega)
  have hg := cR_get L (j / 4) r (j % 4) hr (by omega)
  rw [show j / 4 * 4 + j % 4 = j from by omega, hj] at hg
  have hadd : (⟨b, off, none⟩ : Addr).add j = ⟨b, off + j, none⟩ := by unfold Addr.add; split <;> simp_all
  rw [hadd]
  obtain ⟨h1, h2, h3, h4⟩ := h (j / 4) r hr
  obtain hm | hm | hm | hm : j % 4 = 0 ∨ j % 4 = 1 ∨ j % 4 = 2 ∨ j % 4 = 3 := by omega
  · rw [hm] at hg; simp [c4] at hg; subst hg; rw [show off + j = off + j / 4 * 4 from by omega]; exact h1
  · rw [hm] at hg; simp [c4] at hg; subst hg; rw [show off + j = off + j / 4 * 4 + 1 from by omega]; exact h2
  · rw [hm] at hg; simp [c4] at hg; subst hg; rw [show off + j = off + j / 4 * 4 + 2 from by omega]; exact h3
  · rw [hm] at hg; simp [c4] at hg; subst hg; rw [show off + j = off + j / 4 * 4 + 3 from by omega]; exact h4

theorem wp_app_src {ops : Array Oper} {rest : List Oper} {o : Oper} {a : Act} {w : World} {Q : Exit → Act → World → Prop} (hgd : o.guard = none) (s x : Operand)
    (ho : o.op = .call { callee := .builtin .append, args := #[s, x], argTypes := #[35, 35] }) (g1 : Nat) (hs : a.eval s = .slice (some ⟨g1, 0, none⟩) 0 0) (B : Nat) (hown : OwR w B (some ⟨g1, 0, none⟩) 0 [])
    (A0 : Option Addr) (M : List Rc) (c0 : Nat) (hx : a.eval x = .slice A0 M.length c0) (hM : Rs w A0 M) (hne : A0 ≠ none) (hlen : M.length ≤ 1000000000000) (hB : B ≤ w.heap.size)
    (h : ∀ A' c' w', OwR w' B A' c' M → Apd w w' (some ⟨g1, 0, none⟩) A' → wpList Try.prog ops Q rest (a.put o.dst (.slice A' M.length c')) w') :
    wpList Try.prog ops Q (o :: rest) a w := by
  obtain ⟨i0, hi, hz0, hz1, hz2⟩ := info_parts infoR
  rcases Nat.eq_zero_or_pos M.length with hm | hm
  · have hr := run_app_empty (w := w) (ty := o.type) Try.underlying35 hi hown A0 c0 (fun h => absurd h hne)
    have hM0 : M = [] := List.eq_nil_of_length_eq_zero hm
    subst hM0
    refine wpList_plain hgd fun K hK => ?_
    unfold Oper.wp execOp
    simp only [List.length_nil] at hx hr
    simp only [ho, resolve, invoke, builtin, Sem.run_bind, Sem.run_pure, Result.andThen_ok, List.map_toArray, List.map_cons, List.map_nil, hs, hx, hr]
    exact hK _ _ (h (some ⟨g1, 0, none⟩) 0 w hown ⟨⟨rfl, rfl, rfl, Nat.le_refl _, fun _ _ _ => rfl⟩, .inl rfl⟩)
  · obtain ⟨b, off, rfl, hrow⟩ := hM.opened hm
    refine wpList_append_lies (P := Try.prog) w hgd s x 35 ho B 23 i0 _ 4 32 Try.underlying35 hi hz0 hz1 hz2 rfl (by decide) (.slice (some ⟨g1, 0, none⟩) 0 0) 0 (cR []) hs hown
      ⟨b, off, none⟩ M.length c0 (cR M) hx (cR_len M) hrow.cells (cR_one _) hm (by unfold maxLen; omega) (by omega) hB w.heap.size rfl ?_
    intro g cap w' h1 h2 h3 h4
    rw [Nat.zero_add] at h1 ⊢
    refine h (some ⟨g, 0, none⟩) cap w' h1 ⟨?_, ?_⟩
    · rw [slice_block] at h2; exact h2
    · rw [slice_block] at h3
      rcases h3 with h3 | h3
      · exact .inl h3
      · right; show some g = _; rw [h3]

set_option maxHeartbeats 2000000 in
theorem clone1 (A : Option Addr) (c : Nat) (L : List Rc) (w : World) (hA : Rs w A L) (hl : L.length ≤ 100000000) (hz : A = none → L = []) :
    Calls Try.prog 80 #[.slice A L.length c] w (RR w (fun R => R = L)) := by
  have qT : ∀ (w : World) (a : Option Addr) (n c n' c' : Nat), (binOp .eql 35 (.slice a n c) (.slice none n' c')).run Try.prog w = .ok (.bool a.isNone) w := fun w a n c n' c' => Lib.run_eql_slice_nil w _ _ a n c n' c' Try.underlying35
  cases A with
  | none =>
    obtain rfl := hz rfl
    go_enter Try.func80, Try.ntmps80
    go_wp2
    go_ret
    exact ⟨none, 0, [], rfl, OwR.nil _ _, rfl, Bl.refl w⟩
  | some a =>
    have own : OwR (w.alloc (.cells #[] 23)) w.heap.size (some ⟨w.heap.size, 0, none⟩) 0 [] := ⟨rfl, .inr ⟨w.heap.size, 0, #[], rfl, Nat.le_refl _, heap_alloc_new w _, Nat.le_refl _, Nat.zero_le _, rfl, rfl⟩⟩
    have hA1 := hA.bl ((Bl.refl w).alloc (.cells #[] 23))
    go_enter Try.func80, Try.ntmps80
    go_wp2_with (at_builtin; refine wp_app_src rfl (.tmp 5) (.tmp 6) rfl w.heap.size rfl w.heap.size own (some a) L c rfl hA1 (by simp) (by omega) (by simp) ?_; intro A' c' w' own2 ap2)
    go_ret
    exact ⟨A', c', L, rfl, own2, rfl, ap2.bl ((Bl.refl w).alloc _) (.inr ⟨w.heap.size, rfl, Nat.le_refl _, by simp⟩) (Nat.le_refl _)⟩

set_option maxHeartbeats 1000000 in
theorem keep0 (A : Option Addr) (c n : Nat) (w : World) : Calls Try.prog 52 #[.slice A n c, .int .i64 0] w (fun e w' => e = .returned (.slice none 0 0) ∧ w = w') := by
  go_enter Try.func52, Try.ntmps52
  go_wp2
  go_ret
  exact ⟨rfl, rfl⟩

set_option maxHeartbeats 1000000 in
theorem keepC (A : Option Addr) (c : Nat) (L : List Rc) (m : Int) (w : World) (hA : Rs w A L) (hl : L.length ≤ 100000000) (hz : A = none → L = []) (hm : 1 ≤ m) (hlm : (L.length : Int) ≤ m) :
    Calls Try.prog 52 #[.slice A L.length c, .int .i64 m] w (RR w (fun R => R = L)) := by
  have cC := clone1 A c L w hA hl hz
  generalize L.length = n at *
  go_enter Try.func52, Try.ntmps52
  go_wp2_with fail
  refine cC.mono ?_
  rintro e w' ⟨A1, c1, R, rfl, o1, rfl, g1⟩
  go_wp2
  go_ret
  exact ⟨A1, c1, R, rfl, o1, rfl, g1⟩

theorem Rs.fn {w : World} {b off : Nat} {L : List Rc} (h : RowR w b off L) : Row w b off L.length (fun k => L.getD k ⟨0, 0, 0, 0⟩) := fun k hk => by
  have := h k L[k] (List.getElem?_eq_getElem hk)
  simpa [List.getD, List.getElem?_eq_getElem hk] using this

set_option maxHeartbeats 1000000 in
theorem keepH (A : Option Addr) (c : Nat) (L : List Rc) (m : Int) (H : Rc) (w : World) (hA : Rs w A L) (hl : L.length ≤ 100000000) (hlc : L.length ≤ c) (hm : 1 ≤ m) (hlm : m < (L.length : Int)) (hH : hullR (fun k => L.getD k ⟨0, 0, 0, 0⟩) L.length = H) :
    Calls Try.prog 52 #[.slice A L.length c, .int .i64 m] w (fun e w' => ∃ k0, e = .returned (.slice (some ⟨k0, 0, none⟩) 1 1) ∧ At w' k0 #[.int .i64 H.a, .int .i64 H.b, .int .i64 H.c, .int .i64 H.d] 23 ∧ Bl w w') := by
  obtain ⟨b, off, rfl, hrow⟩ := hA.opened (by omega)
  have cH := hull1 b off L.length c _ w (by omega) (Rs.fn hrow) hlc
  rw [hH] at cH
  clear hH hrow
  generalize L.length = n at *
  obtain ⟨ha, hb, hc, hd⟩ := H
  dsimp only at cH ⊢
  go_enter Try.func52, Try.ntmps52
  go_wp2_with fail
  refine cH.mono ?_
  rintro e w' ⟨rfl, g1⟩
  go_wp2
  go_ret
  exact ⟨w'.heap.size, rfl, At.new w' _ _, g1.bl.alloc _⟩

end Go.Proofs.Ytbhekpcjdpbahaa
