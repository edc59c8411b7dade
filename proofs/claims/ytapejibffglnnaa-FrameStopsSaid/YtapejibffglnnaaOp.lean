/-
  What is proved: rows of ints; how many messages of a row are whole in its first bytes. No program.
-/
import Derived.Test.YtapejibffglnnaaOn
namespace Go.Proofs.Ytapejibffglnnaa
open Go.RowKit Go.Sort Go.Deep
theorem infoJ : (Try.prog.info? 3).map (fun i => (i.zero, i.size, i.bytes)) = some (some (.int .i64 0), 1, 8) := by kernel_rfl
/-- Bytes as they lie. -/
def RowJ (w : World) (b off : Nat) (L : List Int) : Prop := ∀ i x, L[i]? = some x → w.cell? ⟨b, off + i, none⟩ = some (.int .i64 x)
def RwJ (w : World) (A : Option Addr) (L : List Int) : Prop := L = [] ∨ ∃ b off, A = some ⟨b, off, none⟩ ∧ RowJ w b off L
theorem RwJ.opened {w : World} {A : Option Addr} {L : List Int} (h : RwJ w A L) (hn : 0 < L.length) : ∃ b off, A = some ⟨b, off, none⟩ ∧ RowJ w b off L := by
  rcases h with h | h
  · subst h; simp at hn
  · exact h
theorem RwJ.by {w w' : World} {A : Option Addr} {L : List Int} (h : RwJ w A L) {row : Option Nat} (g : w.grownBy w' row) (hne : L = [] ∨ A = none ∨ A.map (·.block) ≠ row) : RwJ w' A L := by
  rcases h with h | ⟨b, off, rfl, hr⟩
  · exact .inl h
  · rcases hne with hne | hne | hne
    · exact .inl hne
    · cases hne
    · exact .inr ⟨b, off, rfl, fun i x hi => g.cell (hr i x hi) hne⟩
theorem RwJ.bl {w w' : World} {A : Option Addr} {L : List Int} (h : RwJ w A L) (g : Bl w w') : RwJ w' A L :=
  h.by (g.byr none) (by cases A <;> simp)
def cJ (L : List Int) : List Value := L.map (Value.int .i64)
theorem cJ_len (L : List Int) : (cJ L).length = L.length := by simp [cJ]
theorem cJ_one (L : List Int) : ∀ u ∈ cJ L, u.oneCell' = true := by
  intro u h; simp [cJ] at h; obtain ⟨x, _, rfl⟩ := h; rfl
theorem RowJ.news {w : World} {b off : Nat} {L : List Int} (h : RowJ w b off L) : ∀ (j : Nat) (u : Value), (cJ L)[j]? = some u → w.cell? (Addr.add ⟨b, off, none⟩ j) = some u := by
  intro j u hj
  unfold cJ at hj
  rw [List.getElem?_map] at hj
  cases hx : L[j]? with
  | none => rw [hx] at hj; cases hj
  | some x => rw [hx] at hj; cases hj; rw [add_lit']; exact h j x hx

theorem RwJ.blk {w : World} {g : Nat} {L : List Int} {t : TypeId} (h : At w g (cJ L).toArray t) : RwJ w (some ⟨g, 0, none⟩) L := by
  refine .inr ⟨g, 0, rfl, fun i x hi => ?_⟩
  rw [Nat.zero_add, h.cell i]
  simp [cJ, hi]
/-- A row of bytes that a call owns. -/
def OwJ (w : World) (B : Nat) (A : Option Addr) (c : Nat) (L : List Int) : Prop := w.ownsRow B 3 1 (.slice A L.length c) L.length (cJ L)
theorem OwJ.nil (w : World) (B : Nat) : OwJ w B none 0 [] := World.ownsRow_nil _ _ _ _
theorem OwJ.lies {w : World} {B : Nat} {A : Option Addr} {c : Nat} {L : List Int} (h : OwJ w B A c L) : A = none ∨ ∃ g, A = some ⟨g, 0, none⟩ ∧ B ≤ g ∧ g < w.heap.size := by
  rcases own_addr h with ⟨h1, _⟩ | h1
  · exact .inl h1
  · exact .inr h1
theorem OwJ.rwb {w : World} {B : Nat} {A : Option Addr} {c : Nat} {L : List Int} (h : OwJ w B A c L) : RwJ w A L := by
  rcases own_addr h with ⟨_, _, h1⟩ | ⟨g, rfl, _⟩
  · exact .inl (List.eq_nil_of_length_eq_zero h1)
  · refine .inr ⟨g, 0, rfl, fun i x hi => ?_⟩
    have hl : i < L.length := by
      rcases Nat.lt_or_ge i L.length with h' | h'
      · exact h'
      · rw [List.getElem?_eq_none h'] at hi; cases hi
    have q := World.ownsRow.cellAt h i (by omega)
    rw [Nat.zero_add, q]
    simp [cJ, hi]
theorem OwJ.by {w w' : World} {B : Nat} {A : Option Addr} {c : Nat} {L : List Int} {row : Option Nat} (h : OwJ w B A c L) (g : w.grownBy w' row) (hne : A = none ∨ A.map (·.block) ≠ row) : OwJ w' B A c L :=
  World.ownsRow.kept h g (by rw [slice_block]; rcases hne with rfl | hne; exact .inl rfl; exact .inr hne)
theorem OwJ.bl {w w' : World} {B : Nat} {A : Option Addr} {c : Nat} {L : List Int} (h : OwJ w B A c L) (g : Bl w w') : OwJ w' B A c L :=
  h.by (g.byr none) (by cases A with | none => exact .inl rfl | some a => exact .inr (by simp))
/-- Bytes are added to a row of bytes that the call owns. -/
theorem run_app_j {w : World} {B : Nat} {A : Option Addr} {c : Nat} {L : List Int} (hown : OwJ w B A c L) {A1 : Option Addr} {c1 : Nat} {M : List Int} (h1 : A1 = none → c1 = 0) (hM : RwJ w A1 M) (hlen : L.length + M.length ≤ 1000000000000) (hB : B ≤ w.heap.size) (ty : TypeId) :
    ∃ A' c' w', (Builtin.append_ #[43, 43] ty #[.slice A L.length c, .slice A1 M.length c1]).run Try.prog w = .ok (.slice A' (L.length + M.length) c') w' ∧ OwJ w' B A' c' (L ++ M) ∧ w.grownBy w' (A.map (·.block)) ∧ (A'.map (·.block) = A.map (·.block) ∨ A'.map (·.block) = some w.heap.size) := by
  obtain ⟨i0, hi, hz0, hz1, hz2⟩ := info_parts infoJ
  by_cases hm : M.length = 0
  · obtain rfl : M = [] := List.eq_nil_of_length_eq_zero hm
    refine ⟨A, c, w, run_app_empty (B := B) Try.underlying43 hi hown A1 c1 h1, by simpa using hown, By.refl _ _, .inl rfl⟩
  · obtain ⟨b, off, rfl, hrow⟩ := hM.opened (by omega)
    obtain ⟨g, cap, w', hr, q1, q2, q3, q4⟩ := run_append_lies (P := Try.prog) w 43 ty B 3 i0 _ 1 8 Try.underlying43 hi hz0 hz1 hz2 rfl (by decide) (.slice A L.length c) L.length (cJ L) hown
      ⟨b, off, none⟩ M.length c1 (cJ M) (by rw [cJ_len]; simp) hrow.news (cJ_one _) (by omega) (by unfold maxLen; omega) (by omega) hB w.heap.size rfl
    rw [slice_block] at q2 q3
    refine ⟨some ⟨g, 0, none⟩, cap, w', hr, ?_, q2, ?_⟩
    · unfold OwJ; rw [show cJ (L ++ M) = cJ L ++ cJ M by simp [cJ], List.length_append]; exact q1
    · rcases q3 with q3 | q3
      · exact .inl q3.symm
      · right; rw [q3]; rfl
theorem wp_app_j {ops : Array Oper} {rest : List Oper} {o : Oper} {a : Act} {w : World} {Q : Exit → Act → World → Prop} (hgd : o.guard = none) (s x : Operand)
    (ho : o.op = .call { callee := .builtin .append, args := #[s, x], argTypes := #[43, 43] }) (A : Option Addr) (c : Nat) (L : List Int) (hs : a.eval s = .slice A L.length c) (B : Nat) (hown : OwJ w B A c L)
    (A1 : Option Addr) (M : List Int) (c1 : Nat) (hx : a.eval x = .slice A1 M.length c1) (h1 : A1 = none → c1 = 0) (hM : RwJ w A1 M) (hlen : L.length + M.length ≤ 1000000000000) (hB : B ≤ w.heap.size)
    (h : ∀ A' c' w', OwJ w' B A' c' (L ++ M) → w.grownBy w' (A.map (·.block)) → (A'.map (·.block) = A.map (·.block) ∨ A'.map (·.block) = some w.heap.size) → wpList Try.prog ops Q rest (a.put o.dst (.slice A' (L.length + M.length) c')) w') :
    wpList Try.prog ops Q (o :: rest) a w := by
  refine wpList_plain hgd fun K hK => ?_
  obtain ⟨A', c', w', hr, q1, q2, q3⟩ := run_app_j hown h1 hM hlen hB o.type
  unfold Oper.wp execOp
  simp only [ho, resolve, invoke, builtin, Sem.run_bind, Sem.run_pure, Result.andThen_ok, List.map_toArray, List.map_cons, List.map_nil, hs, hx, hr]
  exact hK _ _ (h A' c' w' q1 q2 q3)


theorem RowJ.cellD {w : World} {b off : Nat} {L : List Int} (h : RowJ w b off L) {i : Nat} (hi : i < L.length) : w.cell? ⟨b, off + i, none⟩ = some (.int .i64 (L.getD i 0)) := by
  obtain ⟨x, hx⟩ := list_at hi
  rw [h i x hx, List.getD_eq_getElem?_getD, hx]; rfl
/-- Where the messages of a row end. -/
def endsJ (l : List Ms) : List Int := (List.range l.length).map fun i => ((encs (l.take (i + 1))).length : Int)
theorem endsJ_len (l : List Ms) : (endsJ l).length = l.length := by simp [endsJ]
theorem endsJ_at (l : List Ms) {i : Nat} (h : i < l.length) : (endsJ l).getD i 0 = ((encs (l.take (i + 1))).length : Int) := by
  rw [List.getD_eq_getElem?_getD]; simp [endsJ, h]
theorem endsJ_snoc (l : List Ms) (m : Ms) : endsJ (l ++ [m]) = endsJ l ++ [((encs (l ++ [m])).length : Int)] := by
  unfold endsJ
  rw [List.length_append, List.length_singleton, List.range_succ, List.map_append]
  congr 1
  · apply List.map_congr_left
    intro i hi
    rw [List.mem_range] at hi
    rw [List.take_append_of_le_length (by omega)]
  · simp only [List.map_cons, List.map_nil]; rw [List.take_of_length_le (by simp)]
theorem wh_snoc : ∀ (l : List Ms) (m : Ms) (c : Nat), (whN (l ++ [m]) c = if (encs (l ++ [m])).length ≤ c then whN l c + 1 else whN l c) ∧ (whE (l ++ [m]) c = if (encs (l ++ [m])).length ≤ c then (encs (l ++ [m])).length else whE l c)
  | [], m, c => by
    have e : (encs ([] ++ [m])).length = (encM m).length := by simp [encs]
    rw [e]
    unfold whN whE
    simp [whN, whE]
  | a :: l, m, c => by
    have e : (encs ((a :: l) ++ [m])).length = (encM a).length + (encs (l ++ [m])).length := by
      show (encM a ++ encs (l ++ [m])).length = _
      rw [List.length_append]
    rw [e]
    show (whN (a :: (l ++ [m])) c = _) ∧ (whE (a :: (l ++ [m])) c = _)
    unfold whN whE
    by_cases h : (encM a).length ≤ c
    · obtain ⟨i1, i2⟩ := wh_snoc l m (c - (encM a).length)
      rw [if_pos h, if_pos h, if_pos h, if_pos h, i1, i2]
      by_cases h' : (encs (l ++ [m])).length ≤ c - (encM a).length
      · rw [if_pos h', if_pos h', if_pos (by omega), if_pos (by omega)]; exact ⟨by omega, rfl⟩
      · rw [if_neg h', if_neg h', if_neg (by omega), if_neg (by omega)]; exact ⟨rfl, rfl⟩
    · rw [if_neg h, if_neg h, if_neg h, if_neg h, if_neg (by omega), if_neg (by omega)]; exact ⟨rfl, rfl⟩
theorem wh_step (l : List Ms) {j : Nat} (h : j < l.length) (c : Nat) : (whN (l.take (j + 1)) c = if (endsJ l).getD j 0 ≤ (c : Int) then whN (l.take j) c + 1 else whN (l.take j) c) ∧ ((whE (l.take (j + 1)) c : Int) = if (endsJ l).getD j 0 ≤ (c : Int) then (endsJ l).getD j 0 else (whE (l.take j) c : Int)) := by
  rw [endsJ_at l h]
  have e : l.take (j + 1) = l.take j ++ [l[j]] := by rw [List.take_succ_eq_append_getElem h]
  rw [e]
  obtain ⟨h1, h2⟩ := wh_snoc (l.take j) l[j] c
  rw [h1, h2]
  by_cases hc : (encs (l.take j ++ [l[j]])).length ≤ c
  · rw [if_pos hc, if_pos hc, if_pos (by omega), if_pos (by omega)]; exact ⟨rfl, rfl⟩
  · rw [if_neg hc, if_neg hc, if_neg (by omega), if_neg (by omega)]; exact ⟨rfl, rfl⟩
theorem whN_le : ∀ (l : List Ms) (c : Nat), whN l c ≤ l.length
  | [], _ => Nat.zero_le _
  | m :: l, c => by
    unfold whN
    split
    · have := whN_le l (c - (encM m).length); simp; omega
    · exact Nat.zero_le _
theorem beq_nat (a b : Nat) : ((a : Int) == (b : Int)) = decide (a = b) := by
  by_cases h : a = b
  · subst h; simp
  · rw [decide_eq_false h, beq_eq_false_iff_ne]; omega
theorem gl_count (q : Nat) (X : List (Ms × Value)) : (gl q X).length = X.length := by simp [gl]

/-- Two rows of a call's own lie apart. -/
def Dj (A C : Option Addr) : Prop := ∀ g, A.map (·.block) = some g → C.map (·.block) = some g → False
theorem Dj.ne {A C : Option Addr} (h : Dj A C) : C = none ∨ C.map (·.block) ≠ A.map (·.block) := by
  cases C with
  | none => exact .inl rfl
  | some a => exact .inr (fun e => h a.block e.symm rfl)
theorem Dj.symm {A C : Option Addr} (h : Dj A C) : Dj C A := fun g h1 h2 => h g h2 h1
/-- One of them has grown. -/
theorem Dj.app {A C A' : Option Addr} (h : Dj A C) {w : World} (hA : A'.map (·.block) = A.map (·.block) ∨ A'.map (·.block) = some w.heap.size) (hC : C = none ∨ ∃ g B : Nat, C = some ⟨g, 0, none⟩ ∧ B ≤ g ∧ g < w.heap.size) : Dj A' C := fun g h1 h2 => by
  rcases hA with e | e
  · exact h g (e.symm.trans h1) h2
  · rw [e] at h1
    injection h1 with h1
    rcases hC with rfl | ⟨g', _, rfl, _, h3⟩
    · cases h2
    · simp at h2; omega
theorem lies_of {A : Option Addr} {w : World} {B : Nat} (h : A = none ∨ ∃ g, A = some ⟨g, 0, none⟩ ∧ B ≤ g ∧ g < w.heap.size) : A = none ∨ ∃ g B' : Nat, A = some ⟨g, 0, none⟩ ∧ B' ≤ g ∧ g < w.heap.size := by
  rcases h with h | ⟨g, h⟩
  · exact .inl h
  · exact .inr ⟨g, B, h⟩

end Go.Proofs.Ytapejibffglnnaa
