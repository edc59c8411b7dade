/-
  What is proved: small words for memory: rows of arguments, rows of interface values; what 'append' does to any row that a call owns, and to bytes a text's. No conditions but bounds on lengths. what signed, unsigned, words, fixed of package args, and small, digits of the document's, hand back. No conditions but bounds. what an interface value is told to be: Int, Text, Rect, Bytes of package args; as of the statements. No conditions.
-/
import Derived.Test.YthkbenhlhldglaaDoorOba
import Derived.Test.YthkbenhlhldglaaDoorUa
import Derived.Test.YthkbenhlhldglaaDoorMb
import Derived.Lib.AppendStr
namespace Go.Proofs.YthkbenhlhldglaaDoor
open Go.ChangeShapes Go.WideShapes Go.ChangeAt Go.RowKit Go.Joins Go.Sort Go.Deep

theorem slice_nil_block : (Value.slice none 0 0).ownBlock = none := rfl
theorem own_empty {w : World} {B e size : Nat} {A : Option Addr} {n c : Nat} {xs : List Value} (h : w.ownsRow B e size (.slice A n c) n xs) (hA : A = none) : n = 0 ∧ c = 0 := by
  rcases own_addr h with ⟨_, h1, h2⟩ | ⟨g, h1, _⟩
  · exact ⟨h2, h1⟩
  · rw [hA] at h1; cases h1

/-- New cells: none, or they lie. -/
def News (w : World) (A1 : Option Addr) (m : Nat) (news : List Value) : Prop := (m = 0 ∧ news = []) ∨ ∃ b off, A1 = some ⟨b, off, none⟩ ∧ ∀ j u, news[j]? = some u → w.cell? ⟨b, off + j, none⟩ = some u
theorem News.at {w : World} {g : Nat} {xs : List Value} {t : TypeId} (m : Nat) (h : At w g xs.toArray t) : News w (some ⟨g, 0, none⟩) m xs := by
  refine .inr ⟨g, 0, rfl, fun j u hj => ?_⟩
  rw [Nat.zero_add, h.cell j]
  simpa using hj
/-- Cells are added to a row that the call owns. -/
theorem run_app_gen {t e size bytes : Nat} {z : Value} (ht : Tryd.prog.underlying t = some (.slice e)) (hinfo : (Tryd.prog.info? e).map (fun i => (i.zero, i.size, i.bytes)) = some (some z, size, bytes)) (hzs : z.cells.size = size) (hsz : 0 < size)
    {w : World} {B n c : Nat} {A : Option Addr} {xs : List Value} (hown : w.ownsRow B e size (.slice A n c) n xs) {A1 : Option Addr} {m c1 : Nat} {news : List Value} (h1 : A1 = none → c1 = 0) (hl : news.length = m * size) (hN : News w A1 m news)
    (hone : ∀ u ∈ news, u.oneCell' = true) (hlen : n + m ≤ 1000000000) (hby : bytes ≤ 1000) (hB : B ≤ w.heap.size) (ty : TypeId) :
    ∃ A' c' w', (Builtin.append_ #[t, t] ty #[.slice A n c, .slice A1 m c1]).run Tryd.prog w = .ok (.slice A' (n + m) c') w' ∧ w'.ownsRow B e size (.slice A' (n + m) c') (n + m) (xs ++ news) ∧ w.grownBy w' (A.map (·.block)) ∧ (A'.map (·.block) = A.map (·.block) ∨ A'.map (·.block) = some w.heap.size) := by
  obtain ⟨i0, hi, hz0, hz1, hz2⟩ := info_parts hinfo
  by_cases hm : m = 0
  · subst hm
    obtain rfl : news = [] := List.eq_nil_of_length_eq_zero (by rw [hl, Nat.zero_mul])
    exact ⟨A, c, w, run_app_empty (B := B) ht hi hown A1 c1 h1, by simpa using hown, By.refl _ _, .inl rfl⟩
  · obtain ⟨b, off, rfl, hrow⟩ : ∃ b off, A1 = some ⟨b, off, none⟩ ∧ ∀ j u, news[j]? = some u → w.cell? ⟨b, off + j, none⟩ = some u := by
      rcases hN with h | h
      · exact absurd h.1 hm
      · exact h
    have hb : (n + m) * bytes ≤ 140737488355328 := Nat.le_trans (Nat.mul_le_mul hlen hby) (by omega)
    obtain ⟨g, cap, w', hr, q1, q2, q3, q4⟩ := run_append_lies (P := Tryd.prog) w t ty B e i0 z size bytes ht hi hz0 hz1 hz2 hzs hsz (.slice A n c) n xs hown
      ⟨b, off, none⟩ m c1 news hl (fun j u hj => by rw [add_lit']; exact hrow j u hj) hone (by omega) (by unfold maxLen; omega) hb hB w.heap.size rfl
    rw [slice_block] at q2 q3
    refine ⟨some ⟨g, 0, none⟩, cap, w', hr, q1, q2, ?_⟩
    rcases q3 with q3 | q3
    · exact .inl q3.symm
    · right; rw [q3]; rfl
theorem wp_app_gen {t e size bytes : Nat} {z : Value} (ht : Tryd.prog.underlying t = some (.slice e)) (hinfo : (Tryd.prog.info? e).map (fun i => (i.zero, i.size, i.bytes)) = some (some z, size, bytes)) (hzs : z.cells.size = size) (hsz : 0 < size) (hby : bytes ≤ 1000)
    {ops : Array Oper} {rest : List Oper} {o : Oper} {a : Act} {w : World} {Q : Exit → Act → World → Prop} (hgd : o.guard = none) (s x : Operand)
    (ho : o.op = .call { callee := .builtin .append, args := #[s, x], argTypes := #[t, t] }) (A : Option Addr) (n c : Nat) (xs : List Value) (hs : a.eval s = .slice A n c) (B : Nat) (hown : w.ownsRow B e size (.slice A n c) n xs)
    (A1 : Option Addr) (m c1 : Nat) (news : List Value) (hx : a.eval x = .slice A1 m c1) (h1 : A1 = none → c1 = 0) (hl : news.length = m * size) (hN : News w A1 m news) (hone : ∀ u ∈ news, u.oneCell' = true) (hlen : n + m ≤ 1000000000) (hB : B ≤ w.heap.size)
    (h : ∀ A' c' w', w'.ownsRow B e size (.slice A' (n + m) c') (n + m) (xs ++ news) → w.grownBy w' (A.map (·.block)) → (A'.map (·.block) = A.map (·.block) ∨ A'.map (·.block) = some w.heap.size) → wpList Tryd.prog ops Q rest (a.put o.dst (.slice A' (n + m) c')) w') :
    wpList Tryd.prog ops Q (o :: rest) a w := by
  refine wpList_plain hgd fun K hK => ?_
  obtain ⟨A', c', w', hr, q1, q2, q3⟩ := run_app_gen ht hinfo hzs hsz hown h1 hl hN hone hlen hby hB o.type
  unfold Oper.wp execOp
  simp only [ho, resolve, invoke, builtin, Sem.run_bind, Sem.run_pure, Result.andThen_ok, List.map_toArray, List.map_cons, List.map_nil, hs, hx, hr]
  exact hK _ _ (h A' c' w' q1 q2 q3)

theorem step_app_gen {t e size bytes : Nat} {z : Value} (ht : Tryd.prog.underlying t = some (.slice e)) (hinfo : (Tryd.prog.info? e).map (fun i => (i.zero, i.size, i.bytes)) = some (some z, size, bytes)) (hzs : z.cells.size = size) (hsz : 0 < size) (hby : bytes ≤ 1000)
    {ops : Array Oper} {o : Oper} {a : Act} {w : World} {K : Act → World → Prop} {Q : Exit → Act → World → Prop} {E : Prop} (hgd : o.guard = none) (s x : Operand)
    (ho : o.op = .call { callee := .builtin .append, args := #[s, x], argTypes := #[t, t] }) (A : Option Addr) (n c : Nat) (xs : List Value) (hs : a.eval s = .slice A n c) (B : Nat) (hown : w.ownsRow B e size (.slice A n c) n xs)
    (A1 : Option Addr) (m c1 : Nat) (news : List Value) (hx : a.eval x = .slice A1 m c1) (h1 : A1 = none → c1 = 0) (hl : news.length = m * size) (hN : News w A1 m news) (hone : ∀ u ∈ news, u.oneCell' = true) (hlen : n + m ≤ 1000000000) (hB : B ≤ w.heap.size)
    (h : ∀ A' c' w', w'.ownsRow B e size (.slice A' (n + m) c') (n + m) (xs ++ news) → w.grownBy w' (A.map (·.block)) → (A'.map (·.block) = A.map (·.block) ∨ A'.map (·.block) = some w.heap.size) → K (a.put o.dst (.slice A' (n + m) c')) w') :
    if Region.wanted o (yielded ops a.tmps) = true then Oper.wp Tryd.prog o a w K Q else E := by
  have hw : Region.wanted o (yielded ops a.tmps) = true := by simp [Region.wanted, hgd]
  rw [if_pos hw]
  obtain ⟨A', c', w', hr, q1, q2, q3⟩ := run_app_gen ht hinfo hzs hsz hown h1 hl hN hone hlen hby hB o.type
  unfold Oper.wp execOp
  simp only [ho, resolve, invoke, builtin, Sem.run_bind, Sem.run_pure, Result.andThen_ok, List.map_toArray, List.map_cons, List.map_nil, hs, hx, hr]
  exact h A' c' w' q1 q2 q3

/-- A text's bytes are added to a row of bytes that the call owns. -/
theorem strCells_tb (s : ByteArray) : Lib.strCells s = cB (tb s) := by
  unfold Lib.strCells cB tb
  rw [List.map_map]; rfl
theorem run_app_s {w : World} {B : Nat} {A : Option Addr} {c : Nat} {L : List Int} (hown : OwB w B A c L) (s : ByteArray) (hlen : L.length + s.size ≤ 1000000000000) (hB : B ≤ w.heap.size) (ty : TypeId) :
    ∃ A' c' w', (Builtin.append_ #[22, 9] ty #[.slice A L.length c, .string s]).run Tryd.prog w = .ok (.slice A' (L.length + s.size) c') w' ∧ OwB w' B A' c' (L ++ tb s) ∧ w.grownBy w' (A.map (·.block)) := by
  obtain ⟨i0, hi, hz0, hz1, hz2⟩ := info_parts infoBy
  obtain ⟨v', w', hr, q1, q2, _⟩ := Lib.run_append_own_string (P := Tryd.prog) w B 22 9 ty 5 i0 Tryd.underlying22 Tryd.underlying9 hi hz0 hz1 hz2 (.slice A L.length c) L.length (cB L) hown s (by unfold maxLen; omega) (by omega) hB
  rw [slice_block] at q2
  have key : ∃ A' c', v' = .slice A' (L.length + s.size) c' := by
    rcases q1.2 with ⟨h1, h2⟩ | ⟨g, cap, cur, h1, _⟩
    · exact ⟨none, 0, by rw [h2]; exact h1⟩
    · exact ⟨_, _, h1⟩
  obtain ⟨A', c', rfl⟩ := key
  refine ⟨A', c', w', hr, ?_, q2⟩
  unfold OwB
  rw [show cB (L ++ tb s) = cB L ++ cB (tb s) by simp [cB], List.length_append, tb_len, ← strCells_tb]
  exact q1
theorem wp_app_s {ops : Array Oper} {rest : List Oper} {o : Oper} {a : Act} {w : World} {Q : Exit → Act → World → Prop} (hgd : o.guard = none) (sl x : Operand)
    (ho : o.op = .call { callee := .builtin .append, args := #[sl, x], argTypes := #[22, 9] }) (A : Option Addr) (c : Nat) (L : List Int) (hs : a.eval sl = .slice A L.length c) (B : Nat) (hown : OwB w B A c L)
    (s : ByteArray) (hx : a.eval x = .string s) (hlen : L.length + s.size ≤ 1000000000000) (hB : B ≤ w.heap.size)
    (h : ∀ A' c' w', OwB w' B A' c' (L ++ tb s) → w.grownBy w' (A.map (·.block)) → wpList Tryd.prog ops Q rest (a.put o.dst (.slice A' (L.length + s.size) c')) w') :
    wpList Tryd.prog ops Q (o :: rest) a w := by
  refine wpList_plain hgd fun K hK => ?_
  obtain ⟨A', c', w', hr, q1, q2⟩ := run_app_s hown s hlen hB o.type
  unfold Oper.wp execOp
  simp only [ho, resolve, invoke, builtin, Sem.run_bind, Sem.run_pure, Result.andThen_ok, List.map_toArray, List.map_cons, List.map_nil, hs, hx, hr]
  exact hK _ _ (h A' c' w' q1 q2)

/-- Arguments as they lie. -/
def c8 (p : Av × Value) : List Value := [.int .i64 p.1.k, .int .i64 p.1.n, .string p.1.s, .int .i64 p.1.x0, .int .i64 p.1.y0, .int .i64 p.1.x1, .int .i64 p.1.y1, p.2]
def g8 (p : Av × Value) : Value := .agg #[.int .i64 p.1.k, .int .i64 p.1.n, .string p.1.s, .int .i64 p.1.x0, .int .i64 p.1.y0, .int .i64 p.1.x1, .int .i64 p.1.y1, p.2]
def cV : List (Av × Value) → List Value
  | [] => []
  | r :: l => c8 r ++ cV l
theorem c8_len (p : Av × Value) : (c8 p).length = 8 := rfl
theorem cV_len : ∀ L : List (Av × Value), (cV L).length = L.length * 8
  | [] => rfl
  | r :: l => by unfold cV; rw [List.length_append, cV_len l, c8_len, List.length_cons]; omega
theorem cV_app : ∀ L M : List (Av × Value), cV (L ++ M) = cV L ++ cV M
  | [], M => rfl
  | r :: l, M => by show c8 r ++ cV (l ++ M) = (c8 r ++ cV l) ++ cV M; rw [cV_app l M, List.append_assoc]
theorem cV_get : ∀ (L : List (Av × Value)) (k : Nat) (r : Av × Value) (j : Nat), L[k]? = some r → j < 8 → (cV L)[k * 8 + j]? = (c8 r)[j]?
  | [], k, r, j, h, _ => by simp at h
  | r' :: l, 0, r, j, h, hj => by
    simp at h; subst h
    unfold cV
    rw [List.getElem?_append_left (by rw [c8_len]; omega)]; simp
  | r' :: l, k + 1, r, j, h, hj => by
    unfold cV
    rw [List.getElem?_append_right (by rw [c8_len]; omega)]
    rw [show (k + 1) * 8 + j - (c8 r').length = k * 8 + j from by rw [c8_len]; omega]
    exact cV_get l k r j (by simpa using h) hj
/-- Bytes are a slice. -/
def IsSl (v : Value) : Prop := ∃ A n c, v = .slice A n c
theorem Sv.isSl {w : World} {v : Value} {L : List Int} (h : Sv w v L) : IsSl v := by obtain ⟨A, c, rfl, _⟩ := h; exact ⟨_, _, _, rfl⟩
theorem c8_one {p : Av × Value} (h : IsSl p.2) : ∀ u ∈ c8 p, u.oneCell' = true := by
  intro u hu
  obtain ⟨A, n, c, h⟩ := h
  simp [c8] at hu
  rcases hu with rfl | rfl | rfl | rfl | rfl | rfl | rfl | rfl
  · rfl
  · rfl
  · rfl
  · rfl
  · rfl
  · rfl
  · rfl
  · rw [h]; rfl
theorem infoV : (Tryd.prog.info? 88).map (fun i => (i.zero, i.size, i.bytes)) = some (some (.agg #[.int .i64 0, .int .i64 0, .string ⟨#[]⟩, .int .i64 0, .int .i64 0, .int .i64 0, .int .i64 0, .slice none 0 0]), 8, 88) := by kernel_rfl
theorem infoAny : (Tryd.prog.info? 20).map (fun i => (i.zero, i.size, i.bytes)) = some (some .nilIface, 1, 16) := by kernel_rfl
theorem cellsV : Tryd.prog.cellsOf 88 = 8 := by kernel_rfl

/-- A row of arguments: what lies in its cells. -/
def RowV (w : World) (b off : Nat) (L : List (Av × Value)) : Prop := ∀ k r, L[k]? = some r → ∀ j u, (c8 r)[j]? = some u → w.cell? ⟨b, off + k * 8 + j, none⟩ = some u
/-- A slice of that address reads as these arguments. -/
def Vv (w : World) (A : Option Addr) (L : List (Av × Value)) : Prop := (L = [] ∨ ∃ b off, A = some ⟨b, off, none⟩ ∧ RowV w b off L) ∧ ∀ p ∈ L, Sv w p.2 p.1.b
theorem RowV.bl {w w' : World} {b off : Nat} {L : List (Av × Value)} (h : RowV w b off L) (g : Bl w w') : RowV w' b off L := fun k r hk j u hj => g.keep (h k r hk j u hj)
theorem Vv.bl {w w' : World} {A : Option Addr} {L : List (Av × Value)} (h : Vv w A L) (g : Bl w w') : Vv w' A L := by
  refine ⟨?_, fun p hp => (h.2 p hp).bl g⟩
  rcases h.1 with h | ⟨b, off, h1, h2⟩
  · exact .inl h
  · exact .inr ⟨b, off, h1, h2.bl g⟩
/-- One cell's facts, all eight. -/
structure Cells8 (w : World) (b o : Nat) (p : Av × Value) : Prop where
  h0 : w.cell? ⟨b, o, none⟩ = some (.int .i64 p.1.k)
  h1 : w.cell? ⟨b, o + 1, none⟩ = some (.int .i64 p.1.n)
  h2 : w.cell? ⟨b, o + 2, none⟩ = some (.string p.1.s)
  h3 : w.cell? ⟨b, o + 3, none⟩ = some (.int .i64 p.1.x0)
  h4 : w.cell? ⟨b, o + 4, none⟩ = some (.int .i64 p.1.y0)
  h5 : w.cell? ⟨b, o + 5, none⟩ = some (.int .i64 p.1.x1)
  h6 : w.cell? ⟨b, o + 6, none⟩ = some (.int .i64 p.1.y1)
  h7 : w.cell? ⟨b, o + 7, none⟩ = some p.2
theorem Cells8.bl {w w' : World} {b o : Nat} {p : Av × Value} (h : Cells8 w b o p) (g : Bl w w') : Cells8 w' b o p := ⟨g.keep h.h0, g.keep h.h1, g.keep h.h2, g.keep h.h3, g.keep h.h4, g.keep h.h5, g.keep h.h6, g.keep h.h7⟩
theorem Vv.at {w : World} {A : Option Addr} {L : List (Av × Value)} (h : Vv w A L) {k : Nat} (hk : k < L.length) : ∃ b off p, A = some ⟨b, off, none⟩ ∧ L[k]? = some p ∧ Cells8 w b (off + k * 8) p ∧ Sv w p.2 p.1.b := by
  obtain ⟨p, hp⟩ := list_at hk
  rcases h.1 with h' | ⟨b, off, rfl, hr⟩
  · subst h'; simp at hk
  · have q := hr k p hp
    exact ⟨b, off, p, rfl, hp, ⟨q 0 _ rfl, q 1 _ rfl, q 2 _ rfl, q 3 _ rfl, q 4 _ rfl, q 5 _ rfl, q 6 _ rfl, q 7 _ rfl⟩, h.2 p (List.mem_of_getElem? hp)⟩
/-- A row of arguments that a call owns (its cells alone). -/
def OwV (w : World) (B : Nat) (A : Option Addr) (c : Nat) (L : List (Av × Value)) : Prop := w.ownsRow B 88 8 (.slice A L.length c) L.length (cV L)
theorem OwV.nil (w : World) (B : Nat) : OwV w B none 0 [] := World.ownsRow_nil _ _ _ _
theorem OwV.bl {w w' : World} {B : Nat} {A : Option Addr} {c : Nat} {L : List (Av × Value)} (h : OwV w B A c L) (g : Bl w w') : OwV w' B A c L :=
  World.ownsRow.kept h (g.byr none) (by rw [slice_block]; cases A with | none => exact .inl rfl | some a => exact .inr (by simp))
theorem ow_lies {w : World} {B e size n c : Nat} {A : Option Addr} {xs : List Value} (h : w.ownsRow B e size (.slice A n c) n xs) : A = none ∨ ∃ g, A = some ⟨g, 0, none⟩ ∧ B ≤ g ∧ g < w.heap.size := by
  rcases own_addr h with ⟨h1, _⟩ | h1
  · exact .inl h1
  · exact .inr h1
theorem OwV.vv {w : World} {B : Nat} {A : Option Addr} {c : Nat} {L : List (Av × Value)} (h : OwV w B A c L) (hs : ∀ p ∈ L, Sv w p.2 p.1.b) : Vv w A L := by
  refine ⟨?_, hs⟩
  rcases own_addr h with ⟨_, _, h1⟩ | ⟨g, rfl, _⟩
  · exact .inl (List.eq_nil_of_length_eq_zero h1)
  · refine .inr ⟨g, 0, rfl, fun k r hk j u hj => ?_⟩
    have hl : k < L.length := by
      rcases Nat.lt_or_ge k L.length with h' | h'
      · exact h'
      · rw [List.getElem?_eq_none h'] at hk; cases hk
    have hj8 : j < 8 := by
      rcases Nat.lt_or_ge j 8 with h' | h'
      · exact h'
      · rw [List.getElem?_eq_none (by rw [c8_len]; exact h')] at hj; cases hj
    have q := (World.ownsRow.cellAt h (k * 8 + j) (by omega)).trans (cV_get L k r j hk hj8)
    rw [hj] at q
    rw [Nat.zero_add]; exact q

/-- An interface value that is an argument. -/
def IsA (w : World) (v : Value) (a : Av) : Prop :=
  (a.k = 0 ∧ v = .iface 3 (.int .i64 a.n)) ∨ (a.k = 1 ∧ v = .iface 9 (.string a.s)) ∨ (a.k = 2 ∧ v = .iface 26 (.agg #[.int .i64 a.x0, .int .i64 a.y0, .int .i64 a.x1, .int .i64 a.y1])) ∨
    (a.k = 3 ∧ ∃ s, v = .iface 22 s ∧ Sv w s a.b) ∨ ((a.k ≠ 0 ∧ a.k ≠ 1 ∧ a.k ≠ 2 ∧ a.k ≠ 3) ∧ v = .iface 4 (.bool true))
theorem IsA.bl {w w' : World} {v : Value} {a : Av} (h : IsA w v a) (g : Bl w w') : IsA w' v a := by
  rcases h with h | h | h | ⟨h, s, h1, h2⟩ | h
  · exact .inl h
  · exact .inr (.inl h)
  · exact .inr (.inr (.inl h))
  · exact .inr (.inr (.inr (.inl ⟨h, s, h1, h2.bl g⟩)))
  · exact .inr (.inr (.inr (.inr h)))
theorem IsA.one {w : World} {v : Value} {a : Av} (h : IsA w v a) : v.oneCell' = true := by
  rcases h with ⟨_, rfl⟩ | ⟨_, rfl⟩ | ⟨_, rfl⟩ | ⟨_, s, rfl, _⟩ | ⟨_, rfl⟩ <;> rfl
/-- A row of interface values. -/
def RowY (w : World) (b off : Nat) (xs : List Value) : Prop := ∀ k u, xs[k]? = some u → w.cell? ⟨b, off + k, none⟩ = some u
def Yv (w : World) (A : Option Addr) (xs : List Value) : Prop := xs = [] ∨ ∃ b off, A = some ⟨b, off, none⟩ ∧ RowY w b off xs
theorem Yv.bl {w w' : World} {A : Option Addr} {xs : List Value} (h : Yv w A xs) (g : Bl w w') : Yv w' A xs := by
  rcases h with h | ⟨b, off, h1, h2⟩
  · exact .inl h
  · exact .inr ⟨b, off, h1, fun k u hk => g.keep (h2 k u hk)⟩
theorem Yv.at {w : World} {A : Option Addr} {xs : List Value} (h : Yv w A xs) {k : Nat} (hk : k < xs.length) : ∃ b off u, A = some ⟨b, off, none⟩ ∧ xs[k]? = some u ∧ w.cell? ⟨b, off + k, none⟩ = some u := by
  obtain ⟨u, hu⟩ := list_at hk
  rcases h with h' | ⟨b, off, rfl, hr⟩
  · subst h'; simp at hk
  · exact ⟨b, off, u, rfl, hu, hr k u hu⟩
def OwY (w : World) (B : Nat) (A : Option Addr) (c : Nat) (xs : List Value) : Prop := w.ownsRow B 20 1 (.slice A xs.length c) xs.length xs
theorem OwY.nil (w : World) (B : Nat) : OwY w B none 0 [] := World.ownsRow_nil _ _ _ _
theorem OwY.bl {w w' : World} {B : Nat} {A : Option Addr} {c : Nat} {L : List Value} (h : OwY w B A c L) (g : Bl w w') : OwY w' B A c L :=
  World.ownsRow.kept h (g.byr none) (by rw [slice_block]; cases A with | none => exact .inl rfl | some a => exact .inr (by simp))
theorem OwY.yv {w : World} {B : Nat} {A : Option Addr} {c : Nat} {L : List Value} (h : OwY w B A c L) : Yv w A L := by
  rcases own_addr h with ⟨_, _, h1⟩ | ⟨g, rfl, _⟩
  · exact .inl (List.eq_nil_of_length_eq_zero h1)
  · refine .inr ⟨g, 0, rfl, fun k u hk => ?_⟩
    have hl : k < L.length := by
      rcases Nat.lt_or_ge k L.length with h' | h'
      · exact h'
      · rw [List.getElem?_eq_none h'] at hk; cases hk
    rw [Nat.zero_add]
    exact (World.ownsRow.cellAt h k (by omega)).trans hk
/-- Interface values that are these arguments, one by one. -/
inductive AllA (w : World) : List Value → List Av → Prop
  | nil : AllA w [] []
  | cons {v : Value} {a : Av} {xs : List Value} {l : List Av} (h : IsA w v a) (t : AllA w xs l) : AllA w (v :: xs) (a :: l)
theorem AllA.bl {w w' : World} {xs : List Value} {l : List Av} (h : AllA w xs l) (g : Bl w w') : AllA w' xs l := by
  induction h with
  | nil => exact .nil
  | cons h _ ih => exact .cons (h.bl g) ih
theorem AllA.len {w : World} {xs : List Value} {l : List Av} (h : AllA w xs l) : xs.length = l.length := by
  induction h with
  | nil => rfl
  | cons _ _ ih => simp [ih]
theorem AllA.at {w : World} {xs : List Value} {l : List Av} (h : AllA w xs l) : ∀ {k : Nat} {v : Value} {a : Av}, xs[k]? = some v → l[k]? = some a → IsA w v a := by
  induction h with
  | nil => intro k v a hv; simp at hv
  | cons h t ih =>
    intro k v a hv ha
    cases k with
    | zero => simp at hv ha; subst hv ha; exact h
    | succ k => exact ih (by simpa using hv) (by simpa using ha)
theorem AllA.snoc {w : World} {xs : List Value} {l : List Av} (h : AllA w xs l) {v : Value} {a : Av} (hv : IsA w v a) : AllA w (xs ++ [v]) (l ++ [a]) := by
  induction h with
  | nil => exact .cons hv .nil
  | cons h _ ih => exact .cons h ih
theorem AllA.one {w : World} {xs : List Value} {l : List Av} (h : AllA w xs l) : ∀ u ∈ xs, u.oneCell' = true := by
  induction h with
  | nil => intro u hu; simp at hu
  | cons h _ ih =>
    intro u hu
    rcases List.mem_cons.1 hu with rfl | hu
    · exact h.one
    · exact ih u hu

/-- The block of bytes that an interface value holds. -/
def vb : Value → Option Nat
  | .iface _ s => s.ownBlock
  | _ => none
/-- No interface value of a row has its bytes in the row itself, or beyond what there is. -/
def FarY (w : World) (row : Option Nat) (xs : List Value) : Prop := ∀ v ∈ xs, ∀ k, vb v = some k → row ≠ some k ∧ k < w.heap.size
theorem FarY.nil (w : World) (row : Option Nat) : FarY w row [] := fun v hv => by simp at hv
theorem FarY.up {w w' : World} {row row' : Option Nat} {xs : List Value} (h : FarY w row xs) (hz : w.heap.size ≤ w'.heap.size) (hr : row' = row ∨ ∃ k, row' = some k ∧ w.heap.size ≤ k) : FarY w' row' xs := fun v hv k hk => by
  obtain ⟨h1, h2⟩ := h v hv k hk
  refine ⟨?_, by omega⟩
  rcases hr with rfl | ⟨k', rfl, hk'⟩
  · exact h1
  · intro e; injection e with e; omega
theorem FarY.snoc {w : World} {row : Option Nat} {xs : List Value} {v : Value} (h : FarY w row xs) (hv : ∀ k, vb v = some k → row ≠ some k ∧ k < w.heap.size) : FarY w row (xs ++ [v]) := fun u hu k hk => by
  rcases List.mem_append.1 hu with hu | hu
  · exact h u hu k hk
  · simp at hu; subst hu; exact hv k hk
theorem IsA.by {w w' : World} {v : Value} {a : Av} (h : IsA w v a) {row : Option Nat} (g : w.grownBy w' row) (hf : ∀ k, vb v = some k → row ≠ some k) : IsA w' v a := by
  rcases h with h | h | h | ⟨h, s, rfl, h2⟩ | h
  · exact .inl h
  · exact .inr (.inl h)
  · exact .inr (.inr (.inl h))
  · refine .inr (.inr (.inr (.inl ⟨h, s, rfl, h2.by g ?_⟩)))
    cases ho : s.ownBlock with
    | none => exact .inr (.inl ho)
    | some k => exact .inr (.inr (fun e => hf k ho (by rw [← e, ho])))
  · exact .inr (.inr (.inr (.inr h)))
theorem AllA.by {w w' : World} {xs : List Value} {l : List Av} (h : AllA w xs l) {row : Option Nat} (g : w.grownBy w' row) (hf : FarY w row xs) : AllA w' xs l := by
  induction h with
  | nil => exact .nil
  | cons h _ ih => exact .cons (h.by g fun k hk => (hf _ (by simp) k hk).1) (ih fun u hu => hf u (by simp [hu]))

end Go.Proofs.YthkbenhlhldglaaDoor
namespace Go.Proofs.YthkbenhlhldglaaDoor
open Go.RowKit Go.Sort

theorem unsigned1 (n : Int) (w : World) : Calls Tryd.prog 106 #[.int .i64 n] w (Rt w (.bool (decide (0 ≤ n) && decide (n ≤ 4294967295)))) := by
  go_enter Tryd.func106, Tryd.ntmps106
  go_wp2
  all_goals
    go_ret
    exact Rt.bool (by simp [*]; try omega) (Gr.refl _)
theorem smallV1 (n : Int) (w : World) : Calls Tryd.prog 88 #[.int .i64 n] w (Rt w (.bool (smallB n))) := by
  go_enter Tryd.func88, Tryd.ntmps88
  go_wp2
  all_goals
    go_ret
    exact Rt.bool (by rw [smallB_iff]; unfold small; simp [*]; try omega) (Gr.refl _)
theorem fixed1 (c : UInt8) (w : World) : Calls Tryd.prog 101 #[.int .u8 c.toNat] w (Rt w (.tuple #[.int .i64 (((fx c).getD 0 : Nat) : Int), .bool (fx c).isSome])) := by
  have inj : ∀ k : UInt8, c ≠ k → ¬ ((c.toNat : Int) = k.toNat) := fun k hk e => hk (UInt8.toNat_inj.1 (by omega))
  have hi := inj 105
  have hu := inj 117
  have hr := inj 114
  clear inj
  by_cases h0 : c = 105
  · subst h0
    go_enter Tryd.func101, Tryd.ntmps101
    go_wp2
    go_ret2
    exact ⟨by simp [fx], Gr.refl _⟩
  · by_cases h1 : c = 117
    · subst h1
      go_enter Tryd.func101, Tryd.ntmps101
      go_wp2
      go_ret2
      exact ⟨by simp [fx], Gr.refl _⟩
    · by_cases h2 : c = 114
      · subst h2
        go_enter Tryd.func101, Tryd.ntmps101
        go_wp2
        go_ret2
        exact ⟨by simp [fx], Gr.refl _⟩
      · replace hi := hi h0
        replace hu := hu h1
        replace hr := hr h2
        have e : fx c = none := by unfold fx; rw [if_neg (by simp [h0, h1]), if_neg h2]
        rw [e]
        simp only [UInt8.reduceToNat] at hi hu hr
        clear h0 h1 h2 e
        generalize c.toNat = x at *
        go_enter Tryd.func101, Tryd.ntmps101
        go_wp2
        go_ret2
        exact ⟨by simp, Gr.refl _⟩

theorem cells1 {w : World} {b : Nat} {z0 : Value} {t : TypeId} (h : At w b #[z0] t) : w.cell? ⟨b, 0, none⟩ = some z0 := h.cell 0
theorem cells4 {w : World} {b : Nat} {z0 z1 z2 z3 : Value} {t : TypeId} (h : At w b #[z0, z1, z2, z3] t) : w.cell? ⟨b, 0, none⟩ = some z0 ∧ w.cell? ⟨b, 1, none⟩ = some z1 ∧ w.cell? ⟨b, 2, none⟩ = some z2 ∧ w.cell? ⟨b, 3, none⟩ = some z3 :=
  ⟨h.cell 0, h.cell 1, h.cell 2, h.cell 3⟩

set_option maxRecDepth 100000 in
set_option maxHeartbeats 4000000 in
theorem words1 (n : Int) (_hn : -2147483648 ≤ n) (_kn : n ≤ 4294967295) (A0 : Option Addr) (c0 : Nat) (L : List Int) (B p : Nat) (w : World) (hB : B ≤ w.heap.size) (hlen : L.length ≤ 1000000) (own0 : OwB w B A0 c0 L) (hp : At w p #[.int .i64 n] 3) :
    Calls Tryd.prog 107 #[.slice A0 L.length c0, .slice (some ⟨p, 0, none⟩) 1 1] w fun e w' => ∃ A' c', e = .returned (.slice A' (L ++ d4 n).length c') ∧ OwB w' B A' c' (L ++ d4 n) ∧ (∀ w0 : World, w0.heap.size ≤ B → Bl w0 w → Bl w0 w') := by
  have keep0 : ∀ w0 : World, w0.heap.size ≤ B → Bl w0 w → Bl w0 w := fun _ _ h => h
  have z0 := Nat.le_refl w.heap.size
  have q0 := cells1 hp
  go_enter Tryd.func107, Tryd.ntmps107
  go_wp2
  refine wp_loop_rounds 2 ?_
  rw [rounds_succ]
  have o0 := own0.bl ((Bl.refl w).alloc (.cells #[.int .u8 (n / 16777216 % 256), .int .u8 (n / 65536 % 256), .int .u8 (n / 256 % 256), .int .u8 (n % 256)] 5))
  go_wp2_with (at_builtin; refine wp_app_b rfl (.tmp 13) (.tmp 25) rfl A0 c0 (L) (by first | rfl | (simp only [List.length_append]; rfl)) B o0 (some ⟨w.heap.size, 0, none⟩) [n / 16777216 % 256, n / 65536 % 256, n / 256 % 256, n % 256] 4 rfl (by simp) (RwB.blk (L := [n / 16777216 % 256, n / 65536 % 256, n / 256 % 256, n % 256]) (At.new w _ _)) (by simp []; omega) (by simp; omega) ?_; intro A1 c1 w1 own1 by1 ad1)
  have keep1 : ∀ w0 : World, w0.heap.size ≤ B → Bl w0 w → Bl w0 w1 := fun w0 hb h => app_bl by1 ((keep0 w0 hb h).alloc _) o0.lies hb
  have z1 : w.heap.size ≤ w1.heap.size := by have h1 := by1.size; have h2 := z0; simp at h1; omega
  clear ad1
  rw [rounds_succ]
  go_wp2
  go_ret
  exact ⟨A1, c1, by simp [d4_len], by simpa [d4] using own1, keep1⟩

set_option maxRecDepth 100000 in
set_option maxHeartbeats 4000000 in
theorem words4 (x0 y0 x1 y1 : Int) (_hx0 : -2147483648 ≤ x0) (_kx0 : x0 ≤ 4294967295) (_hy0 : -2147483648 ≤ y0) (_ky0 : y0 ≤ 4294967295) (_hx1 : -2147483648 ≤ x1) (_kx1 : x1 ≤ 4294967295) (_hy1 : -2147483648 ≤ y1) (_ky1 : y1 ≤ 4294967295) (A0 : Option Addr) (c0 : Nat) (L : List Int) (B p : Nat) (w : World) (hB : B ≤ w.heap.size) (hlen : L.length ≤ 1000000) (own0 : OwB w B A0 c0 L) (hp : At w p #[.int .i64 x0, .int .i64 y0, .int .i64 x1, .int .i64 y1] 3) (hA0 : A0.map (·.block) ≠ some p) :
    Calls Tryd.prog 107 #[.slice A0 L.length c0, .slice (some ⟨p, 0, none⟩) 4 4] w fun e w' => ∃ A' c', e = .returned (.slice A' (L ++ d4 x0 ++ d4 y0 ++ d4 x1 ++ d4 y1).length c') ∧ OwB w' B A' c' (L ++ d4 x0 ++ d4 y0 ++ d4 x1 ++ d4 y1) ∧ (∀ w0 : World, w0.heap.size ≤ B → Bl w0 w → Bl w0 w') := by
  have keep0 : ∀ w0 : World, w0.heap.size ≤ B → Bl w0 w → Bl w0 w := fun _ _ h => h
  have z0 := Nat.le_refl w.heap.size
  obtain ⟨q0, q1, q2, q3⟩ := cells4 hp
  have hpl := hp.lt
  go_enter Tryd.func107, Tryd.ntmps107
  go_wp2
  refine wp_loop_rounds 5 ?_
  rw [rounds_succ]
  have o0 := own0.bl ((Bl.refl w).alloc (.cells #[.int .u8 (x0 / 16777216 % 256), .int .u8 (x0 / 65536 % 256), .int .u8 (x0 / 256 % 256), .int .u8 (x0 % 256)] 5))
  have hp0 := (hp).alloc (.cells #[.int .u8 (x0 / 16777216 % 256), .int .u8 (x0 / 65536 % 256), .int .u8 (x0 / 256 % 256), .int .u8 (x0 % 256)] 5)
  go_wp2_with (at_builtin; refine wp_app_b rfl (.tmp 13) (.tmp 25) rfl A0 c0 (L) (by first | rfl | (simp only [List.length_append]; rfl)) B o0 (some ⟨w.heap.size, 0, none⟩) [x0 / 16777216 % 256, x0 / 65536 % 256, x0 / 256 % 256, x0 % 256] 4 rfl (by simp) (RwB.blk (L := [x0 / 16777216 % 256, x0 / 65536 % 256, x0 / 256 % 256, x0 % 256]) (At.new w _ _)) (by simp []; omega) (by simp; omega) ?_; intro A1 c1 w1 own1 by1 ad1)
  have keep1 : ∀ w0 : World, w0.heap.size ≤ B → Bl w0 w → Bl w0 w1 := fun w0 hb h => app_bl by1 ((keep0 w0 hb h).alloc _) o0.lies hb
  have z1 : w.heap.size ≤ w1.heap.size := by have h1 := by1.size; have h2 := z0; simp at h1; omega
  have hA1 : A1.map (·.block) ≠ some p := by
    rcases ad1 with h | h
    · rw [h]; exact hA0
    · rw [h]; simp; omega
  have hq1 := hp0.grown by1 (fun e => hA0 e.symm)
  clear ad1 q0 q1 q2 q3
  obtain ⟨q0, q1, q2, q3⟩ := cells4 hq1
  rw [rounds_succ]
  have o1 := own1.bl ((Bl.refl w1).alloc (.cells #[.int .u8 (y0 / 16777216 % 256), .int .u8 (y0 / 65536 % 256), .int .u8 (y0 / 256 % 256), .int .u8 (y0 % 256)] 5))
  have hp1 := (hq1).alloc (.cells #[.int .u8 (y0 / 16777216 % 256), .int .u8 (y0 / 65536 % 256), .int .u8 (y0 / 256 % 256), .int .u8 (y0 % 256)] 5)
  go_wp2_with (at_builtin; refine wp_app_b rfl (.tmp 13) (.tmp 25) rfl A1 c1 (L ++ d4 x0) (by first | rfl | (simp only [List.length_append]; rfl)) B o1 (some ⟨w1.heap.size, 0, none⟩) [y0 / 16777216 % 256, y0 / 65536 % 256, y0 / 256 % 256, y0 % 256] 4 rfl (by simp) (RwB.blk (L := [y0 / 16777216 % 256, y0 / 65536 % 256, y0 / 256 % 256, y0 % 256]) (At.new w1 _ _)) (by simp [d4_len]; omega) (by simp; omega) ?_; intro A2 c2 w2 own2 by2 ad2)
  have keep2 : ∀ w0 : World, w0.heap.size ≤ B → Bl w0 w → Bl w0 w2 := fun w0 hb h => app_bl by2 ((keep1 w0 hb h).alloc _) o1.lies hb
  have z2 : w.heap.size ≤ w2.heap.size := by have h1 := by2.size; have h2 := z1; simp at h1; omega
  have hA2 : A2.map (·.block) ≠ some p := by
    rcases ad2 with h | h
    · rw [h]; exact hA1
    · rw [h]; simp; omega
  have hq2 := hp1.grown by2 (fun e => hA1 e.symm)
  clear ad2 q0 q1 q2 q3
  obtain ⟨q0, q1, q2, q3⟩ := cells4 hq2
  rw [rounds_succ]
  have o2 := own2.bl ((Bl.refl w2).alloc (.cells #[.int .u8 (x1 / 16777216 % 256), .int .u8 (x1 / 65536 % 256), .int .u8 (x1 / 256 % 256), .int .u8 (x1 % 256)] 5))
  have hp2 := (hq2).alloc (.cells #[.int .u8 (x1 / 16777216 % 256), .int .u8 (x1 / 65536 % 256), .int .u8 (x1 / 256 % 256), .int .u8 (x1 % 256)] 5)
  go_wp2_with (at_builtin; refine wp_app_b rfl (.tmp 13) (.tmp 25) rfl A2 c2 (L ++ d4 x0 ++ d4 y0) (by first | rfl | (simp only [List.length_append]; rfl)) B o2 (some ⟨w2.heap.size, 0, none⟩) [x1 / 16777216 % 256, x1 / 65536 % 256, x1 / 256 % 256, x1 % 256] 4 rfl (by simp) (RwB.blk (L := [x1 / 16777216 % 256, x1 / 65536 % 256, x1 / 256 % 256, x1 % 256]) (At.new w2 _ _)) (by simp [d4_len]; omega) (by simp; omega) ?_; intro A3 c3 w3 own3 by3 ad3)
  have keep3 : ∀ w0 : World, w0.heap.size ≤ B → Bl w0 w → Bl w0 w3 := fun w0 hb h => app_bl by3 ((keep2 w0 hb h).alloc _) o2.lies hb
  have z3 : w.heap.size ≤ w3.heap.size := by have h1 := by3.size; have h2 := z2; simp at h1; omega
  have hA3 : A3.map (·.block) ≠ some p := by
    rcases ad3 with h | h
    · rw [h]; exact hA2
    · rw [h]; simp; omega
  have hq3 := hp2.grown by3 (fun e => hA2 e.symm)
  clear ad3 q0 q1 q2 q3
  obtain ⟨q0, q1, q2, q3⟩ := cells4 hq3
  rw [rounds_succ]
  have o3 := own3.bl ((Bl.refl w3).alloc (.cells #[.int .u8 (y1 / 16777216 % 256), .int .u8 (y1 / 65536 % 256), .int .u8 (y1 / 256 % 256), .int .u8 (y1 % 256)] 5))
  have hp3 := (hq3).alloc (.cells #[.int .u8 (y1 / 16777216 % 256), .int .u8 (y1 / 65536 % 256), .int .u8 (y1 / 256 % 256), .int .u8 (y1 % 256)] 5)
  go_wp2_with (at_builtin; refine wp_app_b rfl (.tmp 13) (.tmp 25) rfl A3 c3 (L ++ d4 x0 ++ d4 y0 ++ d4 x1) (by first | rfl | (simp only [List.length_append]; rfl)) B o3 (some ⟨w3.heap.size, 0, none⟩) [y1 / 16777216 % 256, y1 / 65536 % 256, y1 / 256 % 256, y1 % 256] 4 rfl (by simp) (RwB.blk (L := [y1 / 16777216 % 256, y1 / 65536 % 256, y1 / 256 % 256, y1 % 256]) (At.new w3 _ _)) (by simp [d4_len]; omega) (by simp; omega) ?_; intro A4 c4 w4 own4 by4 ad4)
  have keep4 : ∀ w0 : World, w0.heap.size ≤ B → Bl w0 w → Bl w0 w4 := fun w0 hb h => app_bl by4 ((keep3 w0 hb h).alloc _) o3.lies hb
  have z4 : w.heap.size ≤ w4.heap.size := by have h1 := by4.size; have h2 := z3; simp at h1; omega
  have hA4 : A4.map (·.block) ≠ some p := by
    rcases ad4 with h | h
    · rw [h]; exact hA3
    · rw [h]; simp; omega
  have hq4 := hp3.grown by4 (fun e => hA3 e.symm)
  clear ad4 q0 q1 q2 q3
  obtain ⟨q0, q1, q2, q3⟩ := cells4 hq4
  rw [rounds_succ]
  go_wp2
  go_ret
  exact ⟨A4, c4, by simp [d4_len], by simpa [d4] using own4, keep4⟩

set_option maxRecDepth 100000 in
set_option maxHeartbeats 1000000 in
theorem signed1 (n : Int) (p : Nat) (w : World) (hp : At w p #[.int .i64 n] 3) : Calls Tryd.prog 105 #[.slice (some ⟨p, 0, none⟩) 1 1] w (Rt w (.bool (smallB n))) := by
  have q0 := cells1 hp
  go_enter Tryd.func105, Tryd.ntmps105
  go_wp2
  refine wp_loop_rounds 2 ?_
  rw [rounds_succ]
  go_wp2
  repeat (any_goals (first | (go_ret; exact Rt.bool (by simp only [smallB_iff, small]; simp; try omega) (Gr.refl _)) | (rw [rounds_succ]; go_wp2)))
set_option maxRecDepth 100000 in
set_option maxHeartbeats 4000000 in
theorem signed4 (x0 y0 x1 y1 : Int) (p : Nat) (w : World) (hp : At w p #[.int .i64 x0, .int .i64 y0, .int .i64 x1, .int .i64 y1] 3) : Calls Tryd.prog 105 #[.slice (some ⟨p, 0, none⟩) 4 4] w (Rt w (.bool (smallB x0 && (smallB y0 && (smallB x1 && smallB y1))))) := by
  obtain ⟨q0, q1, q2, q3⟩ := cells4 hp
  go_enter Tryd.func105, Tryd.ntmps105
  go_wp2
  refine wp_loop_rounds 5 ?_
  rw [rounds_succ]
  go_wp2
  repeat (any_goals (first | (go_ret; exact Rt.bool (by simp only [Bool.and_eq_true, smallB_iff, small]; simp; try omega) (Gr.refl _)) | (rw [rounds_succ]; go_wp2)))

theorem d4_neg (n : Int) (h0 : -2147483648 ≤ n) (h : n < 0) : [(n + 4294967296) / 16777216, (n + 4294967296) / 65536 % 256, (n + 4294967296) / 256 % 256, (n + 4294967296) % 256] = d4 n := by
  unfold d4
  have e1 : (n + 4294967296) / 16777216 = n / 16777216 % 256 := by omega
  have e2 : (n + 4294967296) / 65536 % 256 = n / 65536 % 256 := by omega
  have e3 : (n + 4294967296) / 256 % 256 = n / 256 % 256 := by omega
  have e4 : (n + 4294967296) % 256 = n % 256 := by omega
  rw [e1, e2, e3, e4]
set_option maxRecDepth 100000 in
set_option maxHeartbeats 1000000 in
theorem digits1 (n : Int) (hn : -2147483648 ≤ n) (kn : n ≤ 4294967295) (w : World) : Calls Tryd.prog 89 #[.int .i64 n] w fun e w' => e = .returned (.slice (some ⟨w.heap.size, 0, none⟩) 4 4) ∧ w' = w.alloc (.cells (cB (d4 n)).toArray 5) := by
  by_cases h : n < 0
  · have e := d4_neg n hn h
    have h' : 0 ≤ n + 4294967296 := by omega
    have h2 : n + 4294967296 ≤ 4294967295 := by omega
    rw [← e]
    clear e
    go_enter Tryd.func89, Tryd.ntmps89
    go_wp2
    go_ret
    exact ⟨rfl, by simp [cB]⟩
  · have h' : 0 ≤ n := by omega
    have e : d4 n = [n / 16777216, n / 65536 % 256, n / 256 % 256, n % 256] := by
      have e1 : n / 16777216 % 256 = n / 16777216 := by omega
      unfold d4; rw [e1]
    rw [e]
    clear e
    go_enter Tryd.func89, Tryd.ntmps89
    go_wp2
    go_ret
    exact ⟨rfl, by simp [cB]⟩

end Go.Proofs.YthkbenhlhldglaaDoor
namespace Go.Proofs.YthkbenhlhldglaaDoor
open Go.RowKit Go.Sort

theorem ta_int_int (w : World) (n : Int) : (Instr.typeAssert (.iface 3 (.int .i64 n)) 20 3 true).run Tryd.prog w = .ok (.tuple #[.int .i64 n, .bool true]) w := by kernel_rfl
theorem ta_int_string (w : World) (n : Int) : (Instr.typeAssert (.iface 3 (.int .i64 n)) 20 9 true).run Tryd.prog w = .ok (.tuple #[.string ⟨#[]⟩, .bool false]) w := by kernel_rfl
theorem ta_int_rect (w : World) (n : Int) : (Instr.typeAssert (.iface 3 (.int .i64 n)) 20 26 true).run Tryd.prog w = .ok (.tuple #[.agg #[.int .i64 0, .int .i64 0, .int .i64 0, .int .i64 0], .bool false]) w := by kernel_rfl
theorem ta_int_bytes (w : World) (n : Int) : (Instr.typeAssert (.iface 3 (.int .i64 n)) 20 22 true).run Tryd.prog w = .ok (.tuple #[.slice none 0 0, .bool false]) w := by kernel_rfl
theorem ta_string_int (w : World) (s : ByteArray) : (Instr.typeAssert (.iface 9 (.string s)) 20 3 true).run Tryd.prog w = .ok (.tuple #[.int .i64 0, .bool false]) w := by kernel_rfl
theorem ta_string_string (w : World) (s : ByteArray) : (Instr.typeAssert (.iface 9 (.string s)) 20 9 true).run Tryd.prog w = .ok (.tuple #[.string s, .bool true]) w := by kernel_rfl
theorem ta_string_rect (w : World) (s : ByteArray) : (Instr.typeAssert (.iface 9 (.string s)) 20 26 true).run Tryd.prog w = .ok (.tuple #[.agg #[.int .i64 0, .int .i64 0, .int .i64 0, .int .i64 0], .bool false]) w := by kernel_rfl
theorem ta_string_bytes (w : World) (s : ByteArray) : (Instr.typeAssert (.iface 9 (.string s)) 20 22 true).run Tryd.prog w = .ok (.tuple #[.slice none 0 0, .bool false]) w := by kernel_rfl
theorem ta_rect_int (w : World) (x0 y0 x1 y1 : Int) : (Instr.typeAssert (.iface 26 (.agg #[.int .i64 x0, .int .i64 y0, .int .i64 x1, .int .i64 y1])) 20 3 true).run Tryd.prog w = .ok (.tuple #[.int .i64 0, .bool false]) w := by kernel_rfl
theorem ta_rect_string (w : World) (x0 y0 x1 y1 : Int) : (Instr.typeAssert (.iface 26 (.agg #[.int .i64 x0, .int .i64 y0, .int .i64 x1, .int .i64 y1])) 20 9 true).run Tryd.prog w = .ok (.tuple #[.string ⟨#[]⟩, .bool false]) w := by kernel_rfl
theorem ta_rect_rect (w : World) (x0 y0 x1 y1 : Int) : (Instr.typeAssert (.iface 26 (.agg #[.int .i64 x0, .int .i64 y0, .int .i64 x1, .int .i64 y1])) 20 26 true).run Tryd.prog w = .ok (.tuple #[.agg #[.int .i64 x0, .int .i64 y0, .int .i64 x1, .int .i64 y1], .bool true]) w := by kernel_rfl
theorem ta_rect_bytes (w : World) (x0 y0 x1 y1 : Int) : (Instr.typeAssert (.iface 26 (.agg #[.int .i64 x0, .int .i64 y0, .int .i64 x1, .int .i64 y1])) 20 22 true).run Tryd.prog w = .ok (.tuple #[.slice none 0 0, .bool false]) w := by kernel_rfl
theorem ta_bytes_int (w : World) (v : Value) : (Instr.typeAssert (.iface 22 (v)) 20 3 true).run Tryd.prog w = .ok (.tuple #[.int .i64 0, .bool false]) w := by kernel_rfl
theorem ta_bytes_string (w : World) (v : Value) : (Instr.typeAssert (.iface 22 (v)) 20 9 true).run Tryd.prog w = .ok (.tuple #[.string ⟨#[]⟩, .bool false]) w := by kernel_rfl
theorem ta_bytes_rect (w : World) (v : Value) : (Instr.typeAssert (.iface 22 (v)) 20 26 true).run Tryd.prog w = .ok (.tuple #[.agg #[.int .i64 0, .int .i64 0, .int .i64 0, .int .i64 0], .bool false]) w := by kernel_rfl
theorem ta_bytes_bytes (w : World) (v : Value) : (Instr.typeAssert (.iface 22 (v)) 20 22 true).run Tryd.prog w = .ok (.tuple #[v, .bool true]) w := by kernel_rfl
theorem ta_bool_int (w : World) (b : Bool) : (Instr.typeAssert (.iface 4 (.bool b)) 20 3 true).run Tryd.prog w = .ok (.tuple #[.int .i64 0, .bool false]) w := by kernel_rfl
theorem ta_bool_string (w : World) (b : Bool) : (Instr.typeAssert (.iface 4 (.bool b)) 20 9 true).run Tryd.prog w = .ok (.tuple #[.string ⟨#[]⟩, .bool false]) w := by kernel_rfl
theorem ta_bool_rect (w : World) (b : Bool) : (Instr.typeAssert (.iface 4 (.bool b)) 20 26 true).run Tryd.prog w = .ok (.tuple #[.agg #[.int .i64 0, .int .i64 0, .int .i64 0, .int .i64 0], .bool false]) w := by kernel_rfl
theorem ta_bool_bytes (w : World) (b : Bool) : (Instr.typeAssert (.iface 4 (.bool b)) 20 22 true).run Tryd.prog w = .ok (.tuple #[.slice none 0 0, .bool false]) w := by kernel_rfl
attribute [local go_sem ↓] ta_int_int ta_int_string ta_int_rect ta_int_bytes ta_string_int ta_string_string ta_string_rect ta_string_bytes ta_rect_int ta_rect_string ta_rect_rect ta_rect_bytes ta_bytes_int ta_bytes_string ta_bytes_rect ta_bytes_bytes ta_bool_int ta_bool_string ta_bool_rect ta_bool_bytes

/-- What Int tells, and its like. -/
def rI (a : Av) : Value := .tuple #[.int .i64 (if a.k = 0 then a.n else 0), .bool (decide (a.k = 0))]
def rT (a : Av) : Value := .tuple #[.string (if a.k = 1 then a.s else ⟨#[]⟩), .bool (decide (a.k = 1))]
def rR (a : Av) : Value := .tuple #[if a.k = 2 then .agg #[.int .i64 a.x0, .int .i64 a.y0, .int .i64 a.x1, .int .i64 a.y1] else .agg #[.int .i64 0, .int .i64 0, .int .i64 0, .int .i64 0], .bool (decide (a.k = 2))]
theorem decT {p : Prop} [Decidable p] (h : p) : decide p = true := decide_eq_true h
theorem decF {p : Prop} [Decidable p] (h : ¬ p) : decide p = false := decide_eq_false h

theorem rI_yes {a : Av} (h : a.k = 0) : rI a = .tuple #[.int .i64 a.n, .bool true] := by unfold rI; rw [if_pos h, decT h]
theorem rI_no {a : Av} (h : ¬ a.k = 0) : rI a = .tuple #[.int .i64 0, .bool false] := by unfold rI; rw [if_neg h, decF h]
theorem rT_yes {a : Av} (h : a.k = 1) : rT a = .tuple #[.string a.s, .bool true] := by unfold rT; rw [if_pos h, decT h]
theorem rT_no {a : Av} (h : ¬ a.k = 1) : rT a = .tuple #[.string ⟨#[]⟩, .bool false] := by unfold rT; rw [if_neg h, decF h]
theorem rR_yes {a : Av} (h : a.k = 2) : rR a = .tuple #[.agg #[.int .i64 a.x0, .int .i64 a.y0, .int .i64 a.x1, .int .i64 a.y1], .bool true] := by unfold rR; rw [if_pos h, decT h]
theorem rR_no {a : Av} (h : ¬ a.k = 2) : rR a = .tuple #[.agg #[.int .i64 0, .int .i64 0, .int .i64 0, .int .i64 0], .bool false] := by unfold rR; rw [if_neg h, decF h]
theorem get4 {w : World} {b : Nat} {z0 z1 z2 z3 : Value} {t : TypeId} (h : At w b #[z0, z1, z2, z3] t) : w.cell? ⟨b, 0, none⟩ = some z0 ∧ w.cell? ⟨b, 1, none⟩ = some z1 ∧ w.cell? ⟨b, 2, none⟩ = some z2 ∧ w.cell? ⟨b, 3, none⟩ = some z3 :=
  ⟨h.cell 0, h.cell 1, h.cell 2, h.cell 3⟩

set_option maxRecDepth 100000 in
set_option maxHeartbeats 1000000 in
theorem int1 (a : Av) (v : Value) (w : World) (h : IsA w v a) : Calls Tryd.prog 86 #[v] w (Rt w (rI a)) := by
  rcases h with ⟨hk, rfl⟩ | ⟨hk, rfl⟩ | ⟨hk, rfl⟩ | ⟨hk, s, rfl, _⟩ | ⟨⟨hk, hk1, hk2, _⟩, rfl⟩
  all_goals
    first | rw [rI_yes hk] | rw [rI_no (by omega)]
    go_enter Tryd.func86, Tryd.ntmps86
    go_wp2
    go_ret2
    exact ⟨rfl, Gr.refl _⟩

/-- What Bytes tells. -/
def BytesQ (w : World) (a : Av) (e : Ending) (w' : World) : Prop := ∃ A c, e = .returned (.tuple #[.slice A (if a.k = 3 then a.b else []).length c, .bool (decide (a.k = 3))]) ∧ Sv w' (.slice A (if a.k = 3 then a.b else []).length c) (if a.k = 3 then a.b else []) ∧ Bl w w'
/-- What 'as' hands back. -/
def asV (p : Av × Value) : Value :=
  if p.1.k = 0 then .iface 3 (.int .i64 p.1.n) else if p.1.k = 1 then .iface 9 (.string p.1.s) else if p.1.k = 2 then .iface 26 (.agg #[.int .i64 p.1.x0, .int .i64 p.1.y0, .int .i64 p.1.x1, .int .i64 p.1.y1])
  else if p.1.k = 3 then .iface 22 p.2 else .iface 4 (.bool true)
theorem asV_is {w : World} {p : Av × Value} (h : Sv w p.2 p.1.b) : IsA w (asV p) p.1 := by
  unfold asV
  by_cases h0 : p.1.k = 0
  · rw [if_pos h0]; exact .inl ⟨h0, rfl⟩
  · rw [if_neg h0]
    by_cases h1 : p.1.k = 1
    · rw [if_pos h1]; exact .inr (.inl ⟨h1, rfl⟩)
    · rw [if_neg h1]
      by_cases h2 : p.1.k = 2
      · rw [if_pos h2]; exact .inr (.inr (.inl ⟨h2, rfl⟩))
      · rw [if_neg h2]
        by_cases h3 : p.1.k = 3
        · rw [if_pos h3]; exact .inr (.inr (.inr (.inl ⟨h3, _, rfl, h⟩)))
        · rw [if_neg h3]; exact .inr (.inr (.inr (.inr ⟨⟨h0, h1, h2, h3⟩, rfl⟩)))
/-- One of the four kinds, nothing beside. -/
def canon (a : Av) : Prop := (∃ n, a = vI n) ∨ (∃ s, a = vS s) ∨ (∃ x0 y0 x1 y1, a = vR x0 y0 x1 y1) ∨ ∃ b, a = vB b
theorem okA_canon {c : UInt8} {v : Av} (h : okA c v) : canon v := by
  rcases h with ⟨_, n, h, _⟩ | ⟨_, n, h, _⟩ | ⟨_, s, h, _⟩ | ⟨_, x0, y0, x1, y1, h, _⟩ | ⟨_, b, h, _⟩
  · exact .inl ⟨n, h⟩
  · exact .inl ⟨n, h⟩
  · exact .inr (.inl ⟨s, h⟩)
  · exact .inr (.inr (.inl ⟨_, _, _, _, h⟩))
  · exact .inr (.inr (.inr ⟨b, h⟩))
theorem get8 {w : World} {b : Nat} {z0 z1 z2 z3 z4 z5 z6 z7 : Value} {t : TypeId} (h : At w b #[z0, z1, z2, z3, z4, z5, z6, z7] t) : w.cell? ⟨b, 0, none⟩ = some z0 ∧ w.cell? ⟨b, 1, none⟩ = some z1 ∧ w.cell? ⟨b, 2, none⟩ = some z2 ∧ w.cell? ⟨b, 3, none⟩ = some z3 ∧
    w.cell? ⟨b, 4, none⟩ = some z4 ∧ w.cell? ⟨b, 5, none⟩ = some z5 ∧ w.cell? ⟨b, 6, none⟩ = some z6 ∧ w.cell? ⟨b, 7, none⟩ = some z7 :=
  ⟨h.cell 0, h.cell 1, h.cell 2, h.cell 3, h.cell 4, h.cell 5, h.cell 6, h.cell 7⟩
theorem sv_nil {w : World} {A : Option Addr} {c n : Nat} {L : List Int} (h : Sv w (.slice A n c) L) : n = L.length ∧ RwB w A L ∧ (A = none → c = 0) ∧ L.length ≤ c ∧ c ≤ maxLen := by
  obtain ⟨A', c', h1, h2, h3, h4, h5⟩ := h
  injection h1 with e1 e2 e3
  subst e1 e3
  exact ⟨e2, h5, h2, h3, h4⟩

end Go.Proofs.YthkbenhlhldglaaDoor
