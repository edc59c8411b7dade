/-
  What is proved: small words for memory: rows of arguments, rows of interface values; what 'append' does to any row that a call owns, and to bytes a text's. No conditions but bounds on lengths.
-/
import Derived.Test.YthkbenhlhldglaaDoorOba
import Derived.Test.YthkbenhlhldglaaDoorUa
import Derived.Lib.AppendStr
namespace Go.Proofs.YthkbenhlhldglaaDoor
open Go.ChangeShapes Go.WideShapes Go.ChangeAt Go.RowKit Go.Joins Go.Sort Go.Deep

theorem slice_nil_block : (Value.slice none 0 0).ownBlock = none := rfl
theorem own_empty {w : World} {B e size : Nat} {A : Option Addr} {n c : Nat} {xs : List Value} (h : w.ownsRow B e size (.slice A n c) n xs) (hA : A = none) : n = 0 ∧ c = 0 := by
  rcases own_addr h with ⟨_, h1, h2⟩ | ⟨g, h1, _⟩
  · exact ⟨h2, h1⟩
  · rw [hA] at h1; cases h1

/-- New cells: none, or they lie. -/
def News (w : World) (A1 : Option Addr) (m : Nat) (news : List Value) : Prop := (m = 0 ∧ news = []) ∨ ∃ b off, A1 = some ⟨b, off, none⟩ ∧ ∀ j u, news[j]? = some u → w.cell? ⟨b, off + j, none⟩ = some u
theorem News.at {w : World} {g : Nat} {xs : List Value} {t : TypeId} (m : Nat) (h : At w g xs.toArray t) : News w (some ⟨g, 0, none⟩) m xs := by
  refine .inr ⟨g, 0, rfl, fun j u hj => ?_⟩
  rw [Nat.zero_add, h.cell j]
  simpa using hj
/-- Cells are added to a row that the call owns. -/
theorem run_app_gen {t e size bytes : Nat} {z : Value} (ht : Tryd.prog.underlying t = some (.slice e)) (hinfo : (Tryd.prog.info? e).map (fun i => (i.zero, i.size, i.bytes)) = some (some z, size, bytes)) (hzs : z.cells.size = size) (hsz : 0 < size)
    {w : World} {B n c : Nat} {A : Option Addr} {xs : List Value} (hown : w.ownsRow B e size (.slice A n c) n xs) {A1 : Option Addr} {m c1 : Nat} {news : List Value} (h1 : A1 = none → c1 = 0) (hl : news.length = m * size) (hN : News w A1 m news)
    (hone : ∀ u ∈ news, u.oneCell' = true) (hlen : n + m ≤ 1000000000) (hby : bytes ≤ 1000) (hB : B ≤ w.heap.size) (ty : TypeId) :
    ∃ A' c' w', (Builtin.append_ #[t, t] ty #[.slice A n c, .slice A1 m c1]).run Tryd.prog w = .ok (.slice A' (n + m) c') w' ∧ w'.ownsRow B e size (.slice A' (n + m) c') (n + m) (xs ++ news) ∧ w.grownBy w' (A.map (·.block)) ∧ (A'.map (·.block) = A.map (·.block) ∨ A'.map (·.block) = some w.heap.size) := by
  obtain ⟨i0, hi, hz0, hz1, hz2⟩ := info_parts hinfo
  by_cases hm : m = 0
  · subst hm
    obtain rfl : news = [] := List.eq_nil_of_length_eq_zero (by rw [hl, Nat.zero_mul])
    exact ⟨A, c, w, run_app_empty (B := B) ht hi hown A1 c1 h1, by simpa using hown, By.refl _ _, .inl rfl⟩
  · obtain ⟨b, off, rfl, hrow⟩ : ∃ b off, A1 = some ⟨b, off, none⟩ ∧ ∀ j u, news[j]? = some u → w.cell? ⟨b, off + j, none⟩ = some u := by
      rcases hN with h | h
      · exact absurd h.1 hm
      · exact h
    have hb : (n + m) * bytes ≤ 140737488355328 := Nat.le_trans (Nat.mul_le_mul hlen hby) (by omega)
    obtain ⟨g, cap, w', hr, q1, q2, q3, q4⟩ := run_append_lies (P := Tryd.prog) w t ty B e i0 z size bytes ht hi hz0 hz1 hz2 hzs hsz (.slice A n c) n xs hown
      ⟨b, off, none⟩ m c1 news hl (fun j u hj => by rw [add_lit']; exact hrow j u hj) hone (by omega) (by unfold maxLen; omega) hb hB w.heap.size rfl
    rw [slice_block] at q2 q3
    refine ⟨some ⟨g, 0, none⟩, cap, w', hr, q1, q2, ?_⟩
    rcases q3 with q3 | q3
    · exact .inl q3.symm
    · right; rw [q3]; rfl
theorem wp_app_gen {t e size bytes : Nat} {z : Value} (ht : Tryd.prog.underlying t = some (.slice e)) (hinfo : (Tryd.prog.info? e).map (fun i => (i.zero, i.size, i.bytes)) = some (some z, size, bytes)) (hzs : z.cells.size = size) (hsz : 0 < size) (hby : bytes ≤ 1000)
    {ops : Array Oper} {rest : List Oper} {o : Oper} {a : Act} {w : World} {Q : Exit → Act → World → Prop} (hgd : o.guard = none) (s x : Operand)
    (ho : o.op = .call { callee := .builtin .append, args := #[s, x], argTypes := #[t, t] }) (A : Option Addr) (n c : Nat) (xs : List Value) (hs : a.eval s = .slice A n c) (B : Nat) (hown : w.ownsRow B e size (.slice A n c) n xs)
    (A1 : Option Addr) (m c1 : Nat) (news : List Value) (hx : a.eval x = .slice A1 m c1) (h1 : A1 = none → c1 = 0) (hl : news.length = m * size) (hN : News w A1 m news) (hone : ∀ u ∈ news, u.oneCell' = true) (hlen : n + m ≤ 1000000000) (hB : B ≤ w.heap.size)
    (h : ∀ A' c' w', w'.ownsRow B e size (.slice A' (n + m) c') (n + m) (xs ++ news) → w.grownBy w' (A.map (·.block)) → (A'.map (·.block) = A.map (·.block) ∨ A'.map (·.block) = some w.heap.size) → wpList Tryd.prog ops Q rest (a.put o.dst (.slice A' (n + m) c')) w') :
    wpList Tryd.prog ops Q (o :: rest) a w := by
  refine wpList_plain hgd fun K hK => ?_
  obtain ⟨A', c', w', hr, q1, q2, q3⟩ := run_app_gen ht hinfo hzs hsz hown h1 hl hN hone hlen hby hB o.type
  unfold Oper.wp execOp
  simp only [ho, resolve, invoke, builtin, Sem.run_bind, Sem.run_pure, Result.andThen_ok, List.map_toArray, List.map_cons, List.map_nil, hs, hx, hr]
  exact hK _ _ (h A' c' w' q1 q2 q3)

theorem step_app_gen {t e size bytes : Nat} {z : Value} (ht : Tryd.prog.underlying t = some (.slice e)) (hinfo : (Tryd.prog.info? e).map (fun i => (i.zero, i.size, i.bytes)) = some (some z, size, bytes)) (hzs : z.cells.size = size) (hsz : 0 < size) (hby : bytes ≤ 1000)
    {ops : Array Oper} {o : Oper} {a : Act} {w : World} {K : Act → World → Prop} {Q : Exit → Act → World → Prop} {E : Prop} (hgd : o.guard = none) (s x : Operand)
    (ho : o.op = .call { callee := .builtin .append, args := #[s, x], argTypes := #[t, t] }) (A : Option Addr) (n c : Nat) (xs : List Value) (hs : a.eval s = .slice A n c) (B : Nat) (hown : w.ownsRow B e size (.slice A n c) n xs)
    (A1 : Option Addr) (m c1 : Nat) (news : List Value) (hx : a.eval x = .slice A1 m c1) (h1 : A1 = none → c1 = 0) (hl : news.length = m * size) (hN : News w A1 m news) (hone : ∀ u ∈ news, u.oneCell' = true) (hlen : n + m ≤ 1000000000) (hB : B ≤ w.heap.size)
    (h : ∀ A' c' w', w'.ownsRow B e size (.slice A' (n + m) c') (n + m) (xs ++ news) → w.grownBy w' (A.map (·.block)) → (A'.map (·.block) = A.map (·.block) ∨ A'.map (·.block) = some w.heap.size) → K (a.put o.dst (.slice A' (n + m) c')) w') :
    if Region.wanted o (yielded ops a.tmps) = true then Oper.wp Tryd.prog o a w K Q else E := by
  have hw : Region.wanted o (yielded ops a.tmps) = true := by simp [Region.wanted, hgd]
  rw [if_pos hw]
  obtain ⟨A', c', w', hr, q1, q2, q3⟩ := run_app_gen ht hinfo hzs hsz hown h1 hl hN hone hlen hby hB o.type
  unfold Oper.wp execOp
  simp only [ho, resolve, invoke, builtin, Sem.run_bind, Sem.run_pure, Result.andThen_ok, List.map_toArray, List.map_cons, List.map_nil, hs, hx, hr]
  exact h A' c' w' q1 q2 q3

/-- A text's bytes are added to a row of bytes that the call owns. -/
theorem strCells_tb (s : ByteArray) : Lib.strCells s = cB (tb s) := by
  unfold Lib.strCells cB tb
  rw [List.map_map]; rfl
theorem run_app_s {w : World} {B : Nat} {A : Option Addr} {c : Nat} {L : List Int} (hown : OwB w B A c L) (s : ByteArray) (hlen : L.length + s.size ≤ 1000000000000) (hB : B ≤ w.heap.size) (ty : TypeId) :
    ∃ A' c' w', (Builtin.append_ #[22, 9] ty #[.slice A L.length c, .string s]).run Tryd.prog w = .ok (.slice A' (L.length + s.size) c') w' ∧ OwB w' B A' c' (L ++ tb s) ∧ w.grownBy w' (A.map (·.block)) := by
  obtain ⟨i0, hi, hz0, hz1, hz2⟩ := info_parts infoBy
  obtain ⟨v', w', hr, q1, q2, _⟩ := Lib.run_append_own_string (P := Tryd.prog) w B 22 9 ty 5 i0 Tryd.underlying22 Tryd.underlying9 hi hz0 hz1 hz2 (.slice A L.length c) L.length (cB L) hown s (by unfold maxLen; omega) (by omega) hB
  rw [slice_block] at q2
  have key : ∃ A' c', v' = .slice A' (L.length + s.size) c' := by
    rcases q1.2 with ⟨h1, h2⟩ | ⟨g, cap, cur, h1, _⟩
    · exact ⟨none, 0, by rw [h2]; exact h1⟩
    · exact ⟨_, _, h1⟩
  obtain ⟨A', c', rfl⟩ := key
  refine ⟨A', c', w', hr, ?_, q2⟩
  unfold OwB
  rw [show cB (L ++ tb s) = cB L ++ cB (tb s) by simp [cB], List.length_append, tb_len, ← strCells_tb]
  exact q1
theorem wp_app_s {ops : Array Oper} {rest : List Oper} {o : Oper} {a : Act} {w : World} {Q : Exit → Act → World → Prop} (hgd : o.guard = none) (sl x : Operand)
    (ho : o.op = .call { callee := .builtin .append, args := #[sl, x], argTypes := #[22, 9] }) (A : Option Addr) (c : Nat) (L : List Int) (hs : a.eval sl = .slice A L.length c) (B : Nat) (hown : OwB w B A c L)
    (s : ByteArray) (hx : a.eval x = .string s) (hlen : L.length + s.size ≤ 1000000000000) (hB : B ≤ w.heap.size)
    (h : ∀ A' c' w', OwB w' B A' c' (L ++ tb s) → w.grownBy w' (A.map (·.block)) → wpList Tryd.prog ops Q rest (a.put o.dst (.slice A' (L.length + s.size) c')) w') :
    wpList Tryd.prog ops Q (o :: rest) a w := by
  refine wpList_plain hgd fun K hK => ?_
  obtain ⟨A', c', w', hr, q1, q2⟩ := run_app_s hown s hlen hB o.type
  unfold Oper.wp execOp
  simp only [ho, resolve, invoke, builtin, Sem.run_bind, Sem.run_pure, Result.andThen_ok, List.map_toArray, List.map_cons, List.map_nil, hs, hx, hr]
  exact hK _ _ (h A' c' w' q1 q2)

/-- Arguments as they lie. -/
def c8 (p : Av × Value) : List Value := [.int .i64 p.1.k, .int .i64 p.1.n, .string p.1.s, .int .i64 p.1.x0, .int .i64 p.1.y0, .int .i64 p.1.x1, .int .i64 p.1.y1, p.2]
def g8 (p : Av × Value) : Value := .agg #[.int .i64 p.1.k, .int .i64 p.1.n, .string p.1.s, .int .i64 p.1.x0, .int .i64 p.1.y0, .int .i64 p.1.x1, .int .i64 p.1.y1, p.2]
def cV : List (Av × Value) → List Value
  | [] => []
  | r :: l => c8 r ++ cV l
theorem c8_len (p : Av × Value) : (c8 p).length = 8 := rfl
theorem cV_len : ∀ L : List (Av × Value), (cV L).length = L.length * 8
  | [] => rfl
  | r :: l => by unfold cV; rw [List.length_append, cV_len l, c8_len, List.length_cons]; omega
theorem cV_app : ∀ L M : List (Av × Value), cV (L ++ M) = cV L ++ cV M
  | [], M => rfl
  | r :: l, M => by show c8 r ++ cV (l ++ M) = (c8 r ++ cV l) ++ cV M; rw [cV_app l M, List.append_assoc]
theorem cV_get : ∀ (L : List (Av × Value)) (k : Nat) (r : Av × Value) (j : Nat), L[k]? = some r → j < 8 → (cV L)[k * 8 + j]? = (c8 r)[j]?
  | [], k, r, j, h, _ => by simp at h
  | r' :: l, 0, r, j, h, hj => by
    simp at h; subst h
    unfold cV
    rw [List.getElem?_append_left (by rw [c8_len]; omega)]; simp
  | r' :: l, k + 1, r, j, h, hj => by
    unfold cV
    rw [List.getElem?_append_right (by rw [c8_len]; omega)]
    rw [show (k + 1) * 8 + j - (c8 r').length = k * 8 + j from by rw [c8_len]; omega]
    exact cV_get l k r j (by simpa using h) hj
/-- Bytes are a slice. -/
def IsSl (v : Value) : Prop := ∃ A n c, v = .slice A n c
theorem Sv.isSl {w : World} {v : Value} {L : List Int} (h : Sv w v L) : IsSl v := by obtain ⟨A, c, rfl, _⟩ := h; exact ⟨_, _, _, rfl⟩
theorem c8_one {p : Av × Value} (h : IsSl p.2) : ∀ u ∈ c8 p, u.oneCell' = true := by
  intro u hu
  obtain ⟨A, n, c, h⟩ := h
  simp [c8] at hu
  rcases hu with rfl | rfl | rfl | rfl | rfl | rfl | rfl | rfl
  · rfl
  · rfl
  · rfl
  · rfl
  · rfl
  · rfl
  · rfl
  · rw [h]; rfl
theorem infoV : (Tryd.prog.info? 88).map (fun i => (i.zero, i.size, i.bytes)) = some (some (.agg #[.int .i64 0, .int .i64 0, .string ⟨#[]⟩, .int .i64 0, .int .i64 0, .int .i64 0, .int .i64 0, .slice none 0 0]), 8, 88) := by kernel_rfl
theorem infoAny : (Tryd.prog.info? 20).map (fun i => (i.zero, i.size, i.bytes)) = some (some .nilIface, 1, 16) := by kernel_rfl
theorem cellsV : Tryd.prog.cellsOf 88 = 8 := by kernel_rfl

/-- A row of arguments: what lies in its cells. -/
def RowV (w : World) (b off : Nat) (L : List (Av × Value)) : Prop := ∀ k r, L[k]? = some r → ∀ j u, (c8 r)[j]? = some u → w.cell? ⟨b, off + k * 8 + j, none⟩ = some u
/-- A slice of that address reads as these arguments. -/
def Vv (w : World) (A : Option Addr) (L : List (Av × Value)) : Prop := (L = [] ∨ ∃ b off, A = some ⟨b, off, none⟩ ∧ RowV w b off L) ∧ ∀ p ∈ L, Sv w p.2 p.1.b
theorem RowV.bl {w w' : World} {b off : Nat} {L : List (Av × Value)} (h : RowV w b off L) (g : Bl w w') : RowV w' b off L := fun k r hk j u hj => g.keep (h k r hk j u hj)
theorem Vv.bl {w w' : World} {A : Option Addr} {L : List (Av × Value)} (h : Vv w A L) (g : Bl w w') : Vv w' A L := by
  refine ⟨?_, fun p hp => (h.2 p hp).bl g⟩
  rcases h.1 with h | ⟨b, off, h1, h2⟩
  · exact .inl h
  · exact .inr ⟨b, off, h1, h2.bl g⟩
/-- One cell's facts, all eight. -/
structure Cells8 (w : World) (b o : Nat) (p : Av × Value) : Prop where
  h0 : w.cell? ⟨b, o, none⟩ = some (.int .i64 p.1.k)
  h1 : w.cell? ⟨b, o + 1, none⟩ = some (.int .i64 p.1.n)
  h2 : w.cell? ⟨b, o + 2, none⟩ = some (.string p.1.s)
  h3 : w.cell? ⟨b, o + 3, none⟩ = some (.int .i64 p.1.x0)
  h4 : w.cell? ⟨b, o + 4, none⟩ = some (.int .i64 p.1.y0)
  h5 : w.cell? ⟨b, o + 5, none⟩ = some (.int .i64 p.1.x1)
  h6 : w.cell? ⟨b, o + 6, none⟩ = some (.int .i64 p.1.y1)
  h7 : w.cell? ⟨b, o + 7, none⟩ = some p.2
theorem Cells8.bl {w w' : World} {b o : Nat} {p : Av × Value} (h : Cells8 w b o p) (g : Bl w w') : Cells8 w' b o p := ⟨g.keep h.h0, g.keep h.h1, g.keep h.h2, g.keep h.h3, g.keep h.h4, g.keep h.h5, g.keep h.h6, g.keep h.h7⟩
theorem Vv.at {w : World} {A : Option Addr} {L : List (Av × Value)} (h : Vv w A L) {k : Nat} (hk : k < L.length) : ∃ b off p, A = some ⟨b, off, none⟩ ∧ L[k]? = some p ∧ Cells8 w b (off + k * 8) p ∧ Sv w p.2 p.1.b := by
  obtain ⟨p, hp⟩ := list_at hk
  rcases h.1 with h' | ⟨b, off, rfl, hr⟩
  · subst h'; simp at hk
  · have q := hr k p hp
    exact ⟨b, off, p, rfl, hp, ⟨q 0 _ rfl, q 1 _ rfl, q 2 _ rfl, q 3 _ rfl, q 4 _ rfl, q 5 _ rfl, q 6 _ rfl, q 7 _ rfl⟩, h.2 p (List.mem_of_getElem? hp)⟩
/-- A row of arguments that a call owns (its cells alone). -/
def OwV (w : World) (B : Nat) (A : Option Addr) (c : Nat) (L : List (Av × Value)) : Prop := w.ownsRow B 88 8 (.slice A L.length c) L.length (cV L)
theorem OwV.nil (w : World) (B : Nat) : OwV w B none 0 [] := World.ownsRow_nil _ _ _ _
theorem OwV.bl {w w' : World} {B : Nat} {A : Option Addr} {c : Nat} {L : List (Av × Value)} (h : OwV w B A c L) (g : Bl w w') : OwV w' B A c L :=
  World.ownsRow.kept h (g.byr none) (by rw [slice_block]; cases A with | none => exact .inl rfl | some a => exact .inr (by simp))
theorem ow_lies {w : World} {B e size n c : Nat} {A : Option Addr} {xs : List Value} (h : w.ownsRow B e size (.slice A n c) n xs) : A = none ∨ ∃ g, A = some ⟨g, 0, none⟩ ∧ B ≤ g ∧ g < w.heap.size := by
  rcases own_addr h with ⟨h1, _⟩ | h1
  · exact .inl h1
  · exact .inr h1
theorem OwV.vv {w : World} {B : Nat} {A : Option Addr} {c : Nat} {L : List (Av × Value)} (h : OwV w B A c L) (hs : ∀ p ∈ L, Sv w p.2 p.1.b) : Vv w A L := by
  refine ⟨?_, hs⟩
  rcases own_addr h with ⟨_, _, h1⟩ | ⟨g, rfl, _⟩
  · exact .inl (List.eq_nil_of_length_eq_zero h1)
  · refine .inr ⟨g, 0, rfl, fun k r hk j u hj => ?_⟩
    have hl : k < L.length := by
      rcases Nat.lt_or_ge k L.length with h' | h'
      · exact h'
      · rw [List.getElem?_eq_none h'] at hk; cases hk
    have hj8 : j < 8 := by
      rcases Nat.lt_or_ge j 8 with h' | h'
      · exact h'
      · rw [List.getElem?_eq_none (by rw [c8_len]; exact h')] at hj; cases hj
    have q := (World.ownsRow.cellAt h (k * 8 + j) (by omega)).trans (cV_get L k r j hk hj8)
    rw [hj] at q
    rw [Nat.zero_add]; exact q

/-- An interface value that is an argument. -/
def IsA (w : World) (v : Value) (a : Av) : Prop :=
  (a.k = 0 ∧ v = .iface 3 (.int .i64 a.n)) ∨ (a.k = 1 ∧ v = .iface 9 (.string a.s)) ∨ (a.k = 2 ∧ v = .iface 26 (.agg #[.int .i64 a.x0, .int .i64 a.y0, .int .i64 a.x1, .int .i64 a.y1])) ∨
    (a.k = 3 ∧ ∃ s, v = .iface 22 s ∧ Sv w s a.b) ∨ ((a.k ≠ 0 ∧ a.k ≠ 1 ∧ a.k ≠ 2 ∧ a.k ≠ 3) ∧ v = .iface 4 (.bool true))
theorem IsA.bl {w w' : World} {v : Value} {a : Av} (h : IsA w v a) (g : Bl w w') : IsA w' v a := by
  rcases h with h | h | h | ⟨h, s, h1, h2⟩ | h
  · exact .inl h
  · exact .inr (.inl h)
  · exact .inr (.inr (.inl h))
  · exact .inr (.inr (.inr (.inl ⟨h, s, h1, h2.bl g⟩)))
  · exact .inr (.inr (.inr (.inr h)))
theorem IsA.one {w : World} {v : Value} {a : Av} (h : IsA w v a) : v.oneCell' = true := by
  rcases h with ⟨_, rfl⟩ | ⟨_, rfl⟩ | ⟨_, rfl⟩ | ⟨_, s, rfl, _⟩ | ⟨_, rfl⟩ <;> rfl
/-- A row of interface values. -/
def RowY (w : World) (b off : Nat) (xs : List Value) : Prop := ∀ k u, xs[k]? = some u → w.cell? ⟨b, off + k, none⟩ = some u
def Yv (w : World) (A : Option Addr) (xs : List Value) : Prop := xs = [] ∨ ∃ b off, A = some ⟨b, off, none⟩ ∧ RowY w b off xs
theorem Yv.bl {w w' : World} {A : Option Addr} {xs : List Value} (h : Yv w A xs) (g : Bl w w') : Yv w' A xs := by
  rcases h with h | ⟨b, off, h1, h2⟩
  · exact .inl h
  · exact .inr ⟨b, off, h1, fun k u hk => g.keep (h2 k u hk)⟩
theorem Yv.at {w : World} {A : Option Addr} {xs : List Value} (h : Yv w A xs) {k : Nat} (hk : k < xs.length) : ∃ b off u, A = some ⟨b, off, none⟩ ∧ xs[k]? = some u ∧ w.cell? ⟨b, off + k, none⟩ = some u := by
  obtain ⟨u, hu⟩ := list_at hk
  rcases h with h' | ⟨b, off, rfl, hr⟩
  · subst h'; simp at hk
  · exact ⟨b, off, u, rfl, hu, hr k u hu⟩
def OwY (w : World) (B : Nat) (A : Option Addr) (c : Nat) (xs : List Value) : Prop := w.ownsRow B 20 1 (.slice A xs.length c) xs.length xs
theorem OwY.nil (w : World) (B : Nat) : OwY w B none 0 [] := World.ownsRow_nil _ _ _ _
theorem OwY.bl {w w' : World} {B : Nat} {A : Option Addr} {c : Nat} {L : List Value} (h : OwY w B A c L) (g : Bl w w') : OwY w' B A c L :=
  World.ownsRow.kept h (g.byr none) (by rw [slice_block]; cases A with | none => exact .inl rfl | some a => exact .inr (by simp))
theorem OwY.yv {w : World} {B : Nat} {A : Option Addr} {c : Nat} {L : List Value} (h : OwY w B A c L) : Yv w A L := by
  rcases own_addr h with ⟨_, _, h1⟩ | ⟨g, rfl, _⟩
  · exact .inl (List.eq_nil_of_length_eq_zero h1)
  · refine .inr ⟨g, 0, rfl, fun k u hk => ?_⟩
    have hl : k < L.length := by
      rcases Nat.lt_or_ge k L.length with h' | h'
      · exact h'
      · rw [List.getElem?_eq_none h'] at hk; cases hk
    rw [Nat.zero_add]
    exact (World.ownsRow.cellAt h k (by omega)).trans hk
/-- Interface values that are these arguments, one by one. -/
inductive AllA (w : World) : List Value → List Av → Prop
  | nil : AllA w [] []
  | cons {v : Value} {a : Av} {xs : List Value} {l : List Av} (h : IsA w v a) (t : AllA w xs l) : AllA w (v :: xs) (a :: l)
theorem AllA.bl {w w' : World} {xs : List Value} {l : List Av} (h : AllA w xs l) (g : Bl w w') : AllA w' xs l := by
  induction h with
  | nil => exact .nil
  | cons h _ ih => exact .cons (h.bl g) ih
theorem AllA.len {w : World} {xs : List Value} {l : List Av} (h : AllA w xs l) : xs.length = l.length := by
  induction h with
  | nil => rfl
  | cons _ _ ih => simp [ih]
theorem AllA.at {w : World} {xs : List Value} {l : List Av} (h : AllA w xs l) : ∀ {k : Nat} {v : Value} {a : Av}, xs[k]? = some v → l[k]? = some a → IsA w v a := by
  induction h with
  | nil => intro k v a hv; simp at hv
  | cons h t ih =>
    intro k v a hv ha
    cases k with
    | zero => simp at hv ha; subst hv ha; exact h
    | succ k => exact ih (by simpa using hv) (by simpa using ha)
theorem AllA.snoc {w : World} {xs : List Value} {l : List Av} (h : AllA w xs l) {v : Value} {a : Av} (hv : IsA w v a) : AllA w (xs ++ [v]) (l ++ [a]) := by
  induction h with
  | nil => exact .cons hv .nil
  | cons h _ ih => exact .cons h ih
theorem AllA.one {w : World} {xs : List Value} {l : List Av} (h : AllA w xs l) : ∀ u ∈ xs, u.oneCell' = true := by
  induction h with
  | nil => intro u hu; simp at hu
  | cons h _ ih =>
    intro u hu
    rcases List.mem_cons.1 hu with rfl | hu
    · exact h.one
    · exact ih u hu

/-- The block of bytes that an interface value holds. -/
def vb : Value → Option Nat
  | .iface _ s => s.ownBlock
  | _ => none
/-- No interface value of a row has its bytes in the row itself, or beyond what there is. -/
def FarY (w : World) (row : Option Nat) (xs : List Value) : Prop := ∀ v ∈ xs, ∀ k, vb v = some k → row ≠ some k ∧ k < w.heap.size
theorem FarY.nil (w : World) (row : Option Nat) : FarY w row [] := fun v hv => by simp at hv
theorem FarY.up {w w' : World} {row row' : Option Nat} {xs : List Value} (h : FarY w row xs) (hz : w.heap.size ≤ w'.heap.size) (hr : row' = row ∨ ∃ k, row' = some k ∧ w.heap.size ≤ k) : FarY w' row' xs := fun v hv k hk => by
  obtain ⟨h1, h2⟩ := h v hv k hk
  refine ⟨?_, by omega⟩
  rcases hr with rfl | ⟨k', rfl, hk'⟩
  · exact h1
  · intro e; injection e with e; omega
theorem FarY.snoc {w : World} {row : Option Nat} {xs : List Value} {v : Value} (h : FarY w row xs) (hv : ∀ k, vb v = some k → row ≠ some k ∧ k < w.heap.size) : FarY w row (xs ++ [v]) := fun u hu k hk => by
  rcases List.mem_append.1 hu with hu | hu
  · exact h u hu k hk
  · simp at hu; subst hu; exact hv k hk
theorem IsA.by {w w' : World} {v : Value} {a : Av} (h : IsA w v a) {row : Option Nat} (g : w.grownBy w' row) (hf : ∀ k, vb v = some k → row ≠ some k) : IsA w' v a := by
  rcases h with h | h | h | ⟨h, s, rfl, h2⟩ | h
  · exact .inl h
  · exact .inr (.inl h)
  · exact .inr (.inr (.inl h))
  · refine .inr (.inr (.inr (.inl ⟨h, s, rfl, h2.by g ?_⟩)))
    cases ho : s.ownBlock with
    | none => exact .inr (.inl ho)
    | some k => exact .inr (.inr (fun e => hf k ho (by rw [← e, ho])))
  · exact .inr (.inr (.inr (.inr h)))
theorem AllA.by {w w' : World} {xs : List Value} {l : List Av} (h : AllA w xs l) {row : Option Nat} (g : w.grownBy w' row) (hf : FarY w row xs) : AllA w' xs l := by
  induction h with
  | nil => exact .nil
  | cons h _ ih => exact .cons (h.by g fun k hk => (hf _ (by simp) k hk).1) (ih fun u hu => hf u (by simp [hu]))

end Go.Proofs.YthkbenhlhldglaaDoor
