/-
  What is proved: slices that read as messages; what 'append' does to them. No conditions but bounds on lengths.
-/
import Derived.Test.YthkbenhlhldglaaDoorOba
import Derived.Test.YthkbenhlhldglaaDoorOa
namespace Go.Proofs.YthkbenhlhldglaaDoor
open Go.ChangeShapes Go.WideShapes Go.ChangeAt Go.RowKit Go.Joins Go.Sort Go.Deep
theorem infoMs : (Tryd.prog.info? 24).map (fun i => (i.zero, i.size, i.bytes)) = some (some (.agg #[.int .i64 0, .int .i64 0, .slice none 0 0]), 3, 40) := by kernel_rfl
theorem cellsMs : Tryd.prog.cellsOf 24 = 3 := by kernel_rfl
/-- Messages as they lie. -/
def c3 (p : Ms × Value) : List Value := [.int .i64 p.1.op, .int .i64 p.1.id, p.2]
def cM : List (Ms × Value) → List Value
  | [] => []
  | r :: l => c3 r ++ cM l
theorem cM_len : ∀ L : List (Ms × Value), (cM L).length = L.length * 3
  | [] => rfl
  | r :: l => by unfold cM; rw [List.length_append, cM_len l]; simp [c3]; omega
theorem cM_app : ∀ L M : List (Ms × Value), cM (L ++ M) = cM L ++ cM M
  | [], M => rfl
  | r :: l, M => by show c3 r ++ cM (l ++ M) = (c3 r ++ cM l) ++ cM M; rw [cM_app l M, List.append_assoc]
theorem cM_get : ∀ (L : List (Ms × Value)) (k : Nat) (r : Ms × Value) (j : Nat), L[k]? = some r → j < 3 → (cM L)[k * 3 + j]? = (c3 r)[j]?
  | [], k, r, j, h, _ => by simp at h
  | r' :: l, 0, r, j, h, hj => by
    simp at h; subst h
    unfold cM
    rw [List.getElem?_append_left (by simp [c3]; omega)]; simp
  | r' :: l, k + 1, r, j, h, hj => by
    unfold cM
    rw [List.getElem?_append_right (by simp [c3]; omega)]
    rw [show (k + 1) * 3 + j - (c3 r').length = k * 3 + j from by simp [c3]; omega]
    exact cM_get l k r j (by simpa using h) hj
theorem cM_one {w : World} : ∀ (L : List (Ms × Value)), (∀ p ∈ L, Sv w p.2 p.1.body) → ∀ u ∈ cM L, u.oneCell' = true
  | [], _, u, h => by simp [cM] at h
  | r :: l, hs, u, h => by
    unfold cM at h
    rw [List.mem_append] at h
    rcases h with h | h
    · simp [c3] at h
      rcases h with h | h | h
      · subst h; rfl
      · subst h; rfl
      · obtain ⟨A, c, h1, _⟩ := hs r (by simp)
        rw [h, h1]; rfl
    · exact cM_one l (fun p hp => hs p (by simp [hp])) u h
def RowM (w : World) (b off : Nat) (L : List (Ms × Value)) : Prop := ∀ k r, L[k]? = some r → w.cell? ⟨b, off + k * 3, none⟩ = some (.int .i64 r.1.op) ∧ w.cell? ⟨b, off + k * 3 + 1, none⟩ = some (.int .i64 r.1.id) ∧ w.cell? ⟨b, off + k * 3 + 2, none⟩ = some r.2
/-- A slice of that address reads as these messages. -/
def Mv (w : World) (A : Option Addr) (L : List (Ms × Value)) : Prop := (L = [] ∨ ∃ b off, A = some ⟨b, off, none⟩ ∧ RowM w b off L) ∧ ∀ p ∈ L, Sv w p.2 p.1.body
theorem RowM.bl {w w' : World} {b off : Nat} {L : List (Ms × Value)} (h : RowM w b off L) (g : Bl w w') : RowM w' b off L := fun k r hk => by
  obtain ⟨h1, h2, h3⟩ := h k r hk
  exact ⟨g.keep h1, g.keep h2, g.keep h3⟩
theorem Mv.bl {w w' : World} {A : Option Addr} {L : List (Ms × Value)} (h : Mv w A L) (g : Bl w w') : Mv w' A L := by
  refine ⟨?_, fun p hp => (h.2 p hp).bl g⟩
  rcases h.1 with h | ⟨b, off, h1, h2⟩
  · exact .inl h
  · exact .inr ⟨b, off, h1, h2.bl g⟩
theorem Mv.by {w w' : World} {A : Option Addr} {L : List (Ms × Value)} (h : Mv w A L) {r : Nat} (g : w.grownBy w' (some r)) (hA : ∀ k, A.map (·.block) = some k → k ≠ r) (hb : ∀ p ∈ L, Far p.1.body p.2 (some r)) : Mv w' A L := by
  refine ⟨?_, fun p hp => (h.2 p hp).by g (hb p hp)⟩
  rcases h.1 with h | ⟨b, off, rfl, h2⟩
  · exact .inl h
  · have hne : some b ≠ some r := fun e => hA b rfl (Option.some.inj e)
    refine .inr ⟨b, off, rfl, fun k p hk => ?_⟩
    obtain ⟨q1, q2, q3⟩ := h2 k p hk
    exact ⟨g.cell q1 hne, g.cell q2 hne, g.cell q3 hne⟩
theorem Mv.at {w : World} {A : Option Addr} {L : List (Ms × Value)} (h : Mv w A L) {k : Nat} (hk : k < L.length) : ∃ b off p, A = some ⟨b, off, none⟩ ∧ L[k]? = some p ∧ w.cell? ⟨b, off + k * 3, none⟩ = some (.int .i64 p.1.op) ∧ w.cell? ⟨b, off + k * 3 + 1, none⟩ = some (.int .i64 p.1.id) ∧ w.cell? ⟨b, off + k * 3 + 2, none⟩ = some p.2 ∧ Sv w p.2 p.1.body := by
  obtain ⟨p, hp⟩ := list_at hk
  rcases h.1 with h' | ⟨b, off, rfl, hr⟩
  · subst h'; simp at hk
  · obtain ⟨h1, h2, h3⟩ := hr k p hp
    exact ⟨b, off, p, rfl, hp, h1, h2, h3, h.2 p (List.mem_of_getElem? hp)⟩
theorem RowM.news {w : World} {b off : Nat} {L : List (Ms × Value)} (h : RowM w b off L) : ∀ (j : Nat) (u : Value), (cM L)[j]? = some u → w.cell? (Addr.add ⟨b, off, none⟩ j) = some u := by
  intro j u hj
  rw [add_lit']
  have hl : j < L.length * 3 := by
    rw [← cM_len]
    rcases Nat.lt_or_ge j (cM L).length with h' | h'
    · exact h'
    · rw [List.getElem?_eq_none h'] at hj; cases hj
  obtain ⟨k, i, hi, rfl⟩ : ∃ k i, i < 3 ∧ j = k * 3 + i := ⟨j / 3, j % 3, by omega, by omega⟩
  obtain ⟨r, hr⟩ := list_at (l := L) (k := k) (by omega)
  rw [cM_get L k r i hr hi] at hj
  obtain ⟨h1, h2, h3⟩ := h k r hr
  match i, hi with
  | 0, _ => simp [c3] at hj; subst hj; exact h1
  | 1, _ => simp [c3] at hj; subst hj; rw [← Nat.add_assoc]; exact h2
  | 2, _ => simp [c3] at hj; subst hj; rw [← Nat.add_assoc]; exact h3

/-- A row of messages that a call owns. -/
def OwM (w : World) (B : Nat) (A : Option Addr) (c : Nat) (L : List (Ms × Value)) : Prop :=
  w.ownsRow B 24 3 (.slice A L.length c) L.length (cM L) ∧ ∀ p ∈ L, Sv w p.2 p.1.body ∧ (p.1.body = [] ∨ A = none ∨ p.2.ownBlock ≠ A.map (·.block))
theorem OwM.nil (w : World) (B : Nat) : OwM w B none 0 [] := ⟨World.ownsRow_nil _ _ _ _, fun p hp => by simp at hp⟩
theorem OwM.lies {w : World} {B : Nat} {A : Option Addr} {c : Nat} {L : List (Ms × Value)} (h : OwM w B A c L) : A = none ∨ ∃ g, A = some ⟨g, 0, none⟩ ∧ B ≤ g ∧ g < w.heap.size := by
  rcases own_addr h.1 with ⟨h1, _⟩ | h1
  · exact .inl h1
  · exact .inr h1
theorem OwM.low {w : World} {B : Nat} {A : Option Addr} {c : Nat} {L : List (Ms × Value)} (h : OwM w B A c L) : ∀ k, A.map (·.block) = some k → B ≤ k := fun k hk => by
  rcases h.lies with rfl | ⟨g, rfl, h1, _⟩
  · cases hk
  · cases hk; exact h1
theorem OwM.mv {w : World} {B : Nat} {A : Option Addr} {c : Nat} {L : List (Ms × Value)} (h : OwM w B A c L) : Mv w A L := by
  refine ⟨?_, fun p hp => (h.2 p hp).1⟩
  rcases own_addr h.1 with ⟨_, _, h1⟩ | ⟨g, rfl, _⟩
  · exact .inl (List.eq_nil_of_length_eq_zero h1)
  · refine .inr ⟨g, 0, rfl, fun k r hk => ?_⟩
    have hl : k < L.length := by
      rcases Nat.lt_or_ge k L.length with h' | h'
      · exact h'
      · rw [List.getElem?_eq_none h'] at hk; cases hk
    have q := fun j (hj : j < 3) => (World.ownsRow.cellAt h.1 (k * 3 + j) (by omega)).trans (cM_get L k r j hk hj)
    refine ⟨?_, ?_, ?_⟩
    · simpa [c3] using q 0 (by omega)
    · simpa [c3] using q 1 (by omega)
    · simpa [c3] using q 2 (by omega)
theorem OwM.by {w w' : World} {B : Nat} {A : Option Addr} {c : Nat} {L : List (Ms × Value)} {row : Option Nat} (h : OwM w B A c L) (g : w.grownBy w' row) (hne : A = none ∨ A.map (·.block) ≠ row) (hb : ∀ p ∈ L, Far p.1.body p.2 row) : OwM w' B A c L :=
  ⟨World.ownsRow.kept h.1 g (by rw [slice_block]; rcases hne with rfl | hne; exact .inl rfl; exact .inr hne), fun p hp => ⟨(h.2 p hp).1.by g (hb p hp), (h.2 p hp).2⟩⟩
theorem OwM.bl {w w' : World} {B : Nat} {A : Option Addr} {c : Nat} {L : List (Ms × Value)} (h : OwM w B A c L) (g : Bl w w') : OwM w' B A c L :=
  ⟨World.ownsRow.kept h.1 (g.byr none) (by rw [slice_block]; cases A with | none => exact .inl rfl | some a => exact .inr (by simp)), fun p hp => ⟨(h.2 p hp).1.bl g, (h.2 p hp).2⟩⟩
/-- All bodies lie from block n on. -/
def Fr (n : Nat) (L : List (Ms × Value)) : Prop := ∀ p ∈ L, p.1.body = [] ∨ ∃ k, p.2.ownBlock = some k ∧ n ≤ k
theorem Fr.nil (n : Nat) : Fr n [] := fun p hp => by simp at hp
theorem Fr.le {n m : Nat} {L : List (Ms × Value)} (h : Fr n L) (hm : m ≤ n) : Fr m L := fun p hp => by
  rcases h p hp with h' | ⟨k, h1, h2⟩
  · exact .inl h'
  · exact .inr ⟨k, h1, by omega⟩
theorem Fr.app {n : Nat} {L M : List (Ms × Value)} (h : Fr n L) (k : Fr n M) : Fr n (L ++ M) := fun p hp => by
  rcases List.mem_append.1 hp with h' | h'
  · exact h p h'
  · exact k p h'
theorem Fr.far {n : Nat} {L : List (Ms × Value)} (h : Fr n L) {b : Nat} (hb : b < n) : ∀ p ∈ L, Far p.1.body p.2 (some b) := fun p hp => by
  rcases h p hp with h' | ⟨k, h1, h2⟩
  · exact .inl h'
  · refine .inr (.inr ?_)
    rw [h1]; intro e; injection e with e; omega

/-- Messages are added to a row of them that the call owns. -/
theorem run_app_m {w : World} {B : Nat} {A : Option Addr} {c : Nat} {L : List (Ms × Value)} (hown : OwM w B A c L) {A1 : Option Addr} {c1 : Nat} {M : List (Ms × Value)} (h1 : A1 = none → c1 = 0) (hM : Mv w A1 M) (hfar : ∀ p ∈ M, p.1.body = [] ∨ A = none ∨ p.2.ownBlock ≠ A.map (·.block)) (hlen : L.length + M.length ≤ 1000000000000) (hB : B ≤ w.heap.size) (ty : TypeId) :
    ∃ A' c' w', (Builtin.append_ #[35, 35] ty #[.slice A L.length c, .slice A1 M.length c1]).run Tryd.prog w = .ok (.slice A' (L.length + M.length) c') w' ∧ OwM w' B A' c' (L ++ M) ∧ w.grownBy w' (A.map (·.block)) ∧ (A'.map (·.block) = A.map (·.block) ∨ A'.map (·.block) = some w.heap.size) := by
  obtain ⟨i0, hi, hz0, hz1, hz2⟩ := info_parts infoMs
  by_cases hm : M.length = 0
  · obtain rfl : M = [] := List.eq_nil_of_length_eq_zero hm
    refine ⟨A, c, w, run_app_empty (B := B) Tryd.underlying35 hi hown.1 A1 c1 h1, by simpa using hown, By.refl _ _, .inl rfl⟩
  · obtain ⟨b, off, rfl, hrow⟩ : ∃ b off, A1 = some ⟨b, off, none⟩ ∧ RowM w b off M := by
      rcases hM.1 with h | h
      · subst h; simp at hm
      · exact h
    obtain ⟨g, cap, w', hr, q1, q2, q3, q4⟩ := run_append_lies (P := Tryd.prog) w 35 ty B 24 i0 _ 3 40 Tryd.underlying35 hi hz0 hz1 hz2 rfl (by decide) (.slice A L.length c) L.length (cM L) hown.1
      ⟨b, off, none⟩ M.length c1 (cM M) (cM_len M) hrow.news (cM_one M hM.2) (by omega) (by unfold maxLen; omega) (by omega) hB w.heap.size rfl
    rw [slice_block] at q2 q3
    refine ⟨some ⟨g, 0, none⟩, cap, w', hr, ⟨?_, ?_⟩, q2, ?_⟩
    · rw [cM_app, List.length_append]; exact q1
    · have key : ∀ p : Ms × Value, Sv w p.2 p.1.body → (p.1.body = [] ∨ A = none ∨ p.2.ownBlock ≠ A.map (·.block)) → Sv w' p.2 p.1.body ∧ (p.1.body = [] ∨ some (⟨g, 0, none⟩ : Addr) = none ∨ p.2.ownBlock ≠ (some (⟨g, 0, none⟩ : Addr)).map (·.block)) := by
        intro p hs hf
        have hfr : Far p.1.body p.2 (A.map (·.block)) := by
          rcases hf with hf | hf | hf
          · exact .inl hf
          · subst hf
            cases ho : p.2.ownBlock with
            | none => exact .inr (.inl ho)
            | some k => exact .inr (.inr (by rw [ho]; simp))
          · exact .inr (.inr hf)
        refine ⟨hs.by q2 hfr, ?_⟩
        by_cases hb : p.1.body = []
        · exact .inl hb
        · right; right
          intro e
          have hlt := hs.lt e hb
          rcases q3 with q3 | q3
          · rcases hf with hf | hf | hf
            · exact hb hf
            · subst hf; cases q3
            · exact hf (e.trans q3.symm)
          · dsimp only at hlt; omega
      intro p hp
      rcases List.mem_append.1 hp with hp | hp
      · exact key p (hown.2 p hp).1 (hown.2 p hp).2
      · exact key p (hM.2 p hp) (hfar p hp)
    · rcases q3 with q3 | q3
      · exact .inl q3.symm
      · right; rw [q3]; rfl
theorem wp_app_m {ops : Array Oper} {rest : List Oper} {o : Oper} {a : Act} {w : World} {Q : Exit → Act → World → Prop} (hgd : o.guard = none) (s x : Operand)
    (ho : o.op = .call { callee := .builtin .append, args := #[s, x], argTypes := #[35, 35] }) (A : Option Addr) (c : Nat) (L : List (Ms × Value)) (hs : a.eval s = .slice A L.length c) (B : Nat) (hown : OwM w B A c L)
    (A1 : Option Addr) (M : List (Ms × Value)) (c1 : Nat) (hx : a.eval x = .slice A1 M.length c1) (h1 : A1 = none → c1 = 0) (hM : Mv w A1 M) (hfar : ∀ p ∈ M, p.1.body = [] ∨ A = none ∨ p.2.ownBlock ≠ A.map (·.block)) (hlen : L.length + M.length ≤ 1000000000000) (hB : B ≤ w.heap.size)
    (h : ∀ A' c' w', OwM w' B A' c' (L ++ M) → w.grownBy w' (A.map (·.block)) → (A'.map (·.block) = A.map (·.block) ∨ A'.map (·.block) = some w.heap.size) → wpList Tryd.prog ops Q rest (a.put o.dst (.slice A' (L.length + M.length) c')) w') :
    wpList Tryd.prog ops Q (o :: rest) a w := by
  refine wpList_plain hgd fun K hK => ?_
  obtain ⟨A', c', w', hr, q1, q2, q3⟩ := run_app_m hown h1 hM hfar hlen hB o.type
  unfold Oper.wp execOp
  simp only [ho, resolve, invoke, builtin, Sem.run_bind, Sem.run_pure, Result.andThen_ok, List.map_toArray, List.map_cons, List.map_nil, hs, hx, hr]
  exact hK _ _ (h A' c' w' q1 q2 q3)
/-- One message that was just built. -/
theorem Mv.one {w : World} {g : Nat} {m : Ms} {v : Value} {t : TypeId} (h : At w g #[.int .i64 m.op, .int .i64 m.id, v] t) (hs : Sv w v m.body) : Mv w (some ⟨g, 0, none⟩) [(m, v)] := by
  refine ⟨.inr ⟨g, 0, rfl, fun k r hk => ?_⟩, fun p hp => by simp at hp; subst hp; exact hs⟩
  cases k with
  | zero =>
    simp at hk
    subst hk
    exact ⟨h.cell 0, h.cell 1, h.cell 2⟩
  | succ k => simp at hk

end Go.Proofs.YthkbenhlhldglaaDoor
