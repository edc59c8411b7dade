/-
  What is proved: what an interface value is told to be: Int, Text, Rect, Bytes of package args; as of the statements. No conditions.
-/
import Derived.Test.YthkbenhlhldglaaDoorUb
import Derived.Test.YthkbenhlhldglaaDoorOcl
namespace Go.Proofs.YthkbenhlhldglaaDoor
open Go.RowKit Go.Sort

theorem ta_int_int (w : World) (n : Int) : (Instr.typeAssert (.iface 3 (.int .i64 n)) 20 3 true).run Tryd.prog w = .ok (.tuple #[.int .i64 n, .bool true]) w := by kernel_rfl
theorem ta_int_string (w : World) (n : Int) : (Instr.typeAssert (.iface 3 (.int .i64 n)) 20 9 true).run Tryd.prog w = .ok (.tuple #[.string ⟨#[]⟩, .bool false]) w := by kernel_rfl
theorem ta_int_rect (w : World) (n : Int) : (Instr.typeAssert (.iface 3 (.int .i64 n)) 20 26 true).run Tryd.prog w = .ok (.tuple #[.agg #[.int .i64 0, .int .i64 0, .int .i64 0, .int .i64 0], .bool false]) w := by kernel_rfl
theorem ta_int_bytes (w : World) (n : Int) : (Instr.typeAssert (.iface 3 (.int .i64 n)) 20 22 true).run Tryd.prog w = .ok (.tuple #[.slice none 0 0, .bool false]) w := by kernel_rfl
theorem ta_string_int (w : World) (s : ByteArray) : (Instr.typeAssert (.iface 9 (.string s)) 20 3 true).run Tryd.prog w = .ok (.tuple #[.int .i64 0, .bool false]) w := by kernel_rfl
theorem ta_string_string (w : World) (s : ByteArray) : (Instr.typeAssert (.iface 9 (.string s)) 20 9 true).run Tryd.prog w = .ok (.tuple #[.string s, .bool true]) w := by kernel_rfl
theorem ta_string_rect (w : World) (s : ByteArray) : (Instr.typeAssert (.iface 9 (.string s)) 20 26 true).run Tryd.prog w = .ok (.tuple #[.agg #[.int .i64 0, .int .i64 0, .int .i64 0, .int .i64 0], .bool false]) w := by kernel_rfl
theorem ta_string_bytes (w : World) (s : ByteArray) : (Instr.typeAssert (.iface 9 (.string s)) 20 22 true).run Tryd.prog w = .ok (.tuple #[.slice none 0 0, .bool false]) w := by kernel_rfl
theorem ta_rect_int (w : World) (x0 y0 x1 y1 : Int) : (Instr.typeAssert (.iface 26 (.agg #[.int .i64 x0, .int .i64 y0, .int .i64 x1, .int .i64 y1])) 20 3 true).run Tryd.prog w = .ok (.tuple #[.int .i64 0, .bool false]) w := by kernel_rfl
theorem ta_rect_string (w : World) (x0 y0 x1 y1 : Int) : (Instr.typeAssert (.iface 26 (.agg #[.int .i64 x0, .int .i64 y0, .int .i64 x1, .int .i64 y1])) 20 9 true).run Tryd.prog w = .ok (.tuple #[.string ⟨#[]⟩, .bool false]) w := by kernel_rfl
theorem ta_rect_rect (w : World) (x0 y0 x1 y1 : Int) : (Instr.typeAssert (.iface 26 (.agg #[.int .i64 x0, .int .i64 y0, .int .i64 x1, .int .i64 y1])) 20 26 true).run Tryd.prog w = .ok (.tuple #[.agg #[.int .i64 x0, .int .i64 y0, .int .i64 x1, .int .i64 y1], .bool true]) w := by kernel_rfl
theorem ta_rect_bytes (w : World) (x0 y0 x1 y1 : Int) : (Instr.typeAssert (.iface 26 (.agg #[.int .i64 x0, .int .i64 y0, .int .i64 x1, .int .i64 y1])) 20 22 true).run Tryd.prog w = .ok (.tuple #[.slice none 0 0, .bool false]) w := by kernel_rfl
theorem ta_bytes_int (w : World) (v : Value) : (Instr.typeAssert (.iface 22 (v)) 20 3 true).run Tryd.prog w = .ok (.tuple #[.int .i64 0, .bool false]) w := by kernel_rfl
theorem ta_bytes_string (w : World) (v : Value) : (Instr.typeAssert (.iface 22 (v)) 20 9 true).run Tryd.prog w = .ok (.tuple #[.string ⟨#[]⟩, .bool false]) w := by kernel_rfl
theorem ta_bytes_rect (w : World) (v : Value) : (Instr.typeAssert (.iface 22 (v)) 20 26 true).run Tryd.prog w = .ok (.tuple #[.agg #[.int .i64 0, .int .i64 0, .int .i64 0, .int .i64 0], .bool false]) w := by kernel_rfl
theorem ta_bytes_bytes (w : World) (v : Value) : (Instr.typeAssert (.iface 22 (v)) 20 22 true).run Tryd.prog w = .ok (.tuple #[v, .bool true]) w := by kernel_rfl
theorem ta_bool_int (w : World) (b : Bool) : (Instr.typeAssert (.iface 4 (.bool b)) 20 3 true).run Tryd.prog w = .ok (.tuple #[.int .i64 0, .bool false]) w := by kernel_rfl
theorem ta_bool_string (w : World) (b : Bool) : (Instr.typeAssert (.iface 4 (.bool b)) 20 9 true).run Tryd.prog w = .ok (.tuple #[.string ⟨#[]⟩, .bool false]) w := by kernel_rfl
theorem ta_bool_rect (w : World) (b : Bool) : (Instr.typeAssert (.iface 4 (.bool b)) 20 26 true).run Tryd.prog w = .ok (.tuple #[.agg #[.int .i64 0, .int .i64 0, .int .i64 0, .int .i64 0], .bool false]) w := by kernel_rfl
theorem ta_bool_bytes (w : World) (b : Bool) : (Instr.typeAssert (.iface 4 (.bool b)) 20 22 true).run Tryd.prog w = .ok (.tuple #[.slice none 0 0, .bool false]) w := by kernel_rfl
attribute [local go_sem ↓] ta_int_int ta_int_string ta_int_rect ta_int_bytes ta_string_int ta_string_string ta_string_rect ta_string_bytes ta_rect_int ta_rect_string ta_rect_rect ta_rect_bytes ta_bytes_int ta_bytes_string ta_bytes_rect ta_bytes_bytes ta_bool_int ta_bool_string ta_bool_rect ta_bool_bytes

/-- What Int tells, and its like. -/
def rI (a : Av) : Value := .tuple #[.int .i64 (if a.k = 0 then a.n else 0), .bool (decide (a.k = 0))]
def rT (a : Av) : Value := .tuple #[.string (if a.k = 1 then a.s else ⟨#[]⟩), .bool (decide (a.k = 1))]
def rR (a : Av) : Value := .tuple #[if a.k = 2 then .agg #[.int .i64 a.x0, .int .i64 a.y0, .int .i64 a.x1, .int .i64 a.y1] else .agg #[.int .i64 0, .int .i64 0, .int .i64 0, .int .i64 0], .bool (decide (a.k = 2))]
theorem decT {p : Prop} [Decidable p] (h : p) : decide p = true := decide_eq_true h
theorem decF {p : Prop} [Decidable p] (h : ¬ p) : decide p = false := decide_eq_false h

theorem rI_yes {a : Av} (h : a.k = 0) : rI a = .tuple #[.int .i64 a.n, .bool true] := by unfold rI; rw [if_pos h, decT h]
theorem rI_no {a : Av} (h : ¬ a.k = 0) : rI a = .tuple #[.int .i64 0, .bool false] := by unfold rI; rw [if_neg h, decF h]
theorem rT_yes {a : Av} (h : a.k = 1) : rT a = .tuple #[.string a.s, .bool true] := by unfold rT; rw [if_pos h, decT h]
theorem rT_no {a : Av} (h : ¬ a.k = 1) : rT a = .tuple #[.string ⟨#[]⟩, .bool false] := by unfold rT; rw [if_neg h, decF h]
theorem rR_yes {a : Av} (h : a.k = 2) : rR a = .tuple #[.agg #[.int .i64 a.x0, .int .i64 a.y0, .int .i64 a.x1, .int .i64 a.y1], .bool true] := by unfold rR; rw [if_pos h, decT h]
theorem rR_no {a : Av} (h : ¬ a.k = 2) : rR a = .tuple #[.agg #[.int .i64 0, .int .i64 0, .int .i64 0, .int .i64 0], .bool false] := by unfold rR; rw [if_neg h, decF h]
theorem get4 {w : World} {b : Nat} {z0 z1 z2 z3 : Value} {t : TypeId} (h : At w b #[z0, z1, z2, z3] t) : w.cell? ⟨b, 0, none⟩ = some z0 ∧ w.cell? ⟨b, 1, none⟩ = some z1 ∧ w.cell? ⟨b, 2, none⟩ = some z2 ∧ w.cell? ⟨b, 3, none⟩ = some z3 :=
  ⟨h.cell 0, h.cell 1, h.cell 2, h.cell 3⟩

set_option maxRecDepth 100000 in
set_option maxHeartbeats 1000000 in
theorem int1 (a : Av) (v : Value) (w : World) (h : IsA w v a) : Calls Tryd.prog 86 #[v] w (Rt w (rI a)) := by
  rcases h with ⟨hk, rfl⟩ | ⟨hk, rfl⟩ | ⟨hk, rfl⟩ | ⟨hk, s, rfl, _⟩ | ⟨⟨hk, hk1, hk2, _⟩, rfl⟩
  all_goals
    first | rw [rI_yes hk] | rw [rI_no (by omega)]
    go_enter Tryd.func86, Tryd.ntmps86
    go_wp2
    go_ret2
    exact ⟨rfl, Gr.refl _⟩

/-- What Bytes tells. -/
def BytesQ (w : World) (a : Av) (e : Ending) (w' : World) : Prop := ∃ A c, e = .returned (.tuple #[.slice A (if a.k = 3 then a.b else []).length c, .bool (decide (a.k = 3))]) ∧ Sv w' (.slice A (if a.k = 3 then a.b else []).length c) (if a.k = 3 then a.b else []) ∧ Bl w w'
/-- What 'as' hands back. -/
def asV (p : Av × Value) : Value :=
  if p.1.k = 0 then .iface 3 (.int .i64 p.1.n) else if p.1.k = 1 then .iface 9 (.string p.1.s) else if p.1.k = 2 then .iface 26 (.agg #[.int .i64 p.1.x0, .int .i64 p.1.y0, .int .i64 p.1.x1, .int .i64 p.1.y1])
  else if p.1.k = 3 then .iface 22 p.2 else .iface 4 (.bool true)
theorem asV_is {w : World} {p : Av × Value} (h : Sv w p.2 p.1.b) : IsA w (asV p) p.1 := by
  unfold asV
  by_cases h0 : p.1.k = 0
  · rw [if_pos h0]; exact .inl ⟨h0, rfl⟩
  · rw [if_neg h0]
    by_cases h1 : p.1.k = 1
    · rw [if_pos h1]; exact .inr (.inl ⟨h1, rfl⟩)
    · rw [if_neg h1]
      by_cases h2 : p.1.k = 2
      · rw [if_pos h2]; exact .inr (.inr (.inl ⟨h2, rfl⟩))
      · rw [if_neg h2]
        by_cases h3 : p.1.k = 3
        · rw [if_pos h3]; exact .inr (.inr (.inr (.inl ⟨h3, _, rfl, h⟩)))
        · rw [if_neg h3]; exact .inr (.inr (.inr (.inr ⟨⟨h0, h1, h2, h3⟩, rfl⟩)))
/-- One of the four kinds, nothing beside. -/
def canon (a : Av) : Prop := (∃ n, a = vI n) ∨ (∃ s, a = vS s) ∨ (∃ x0 y0 x1 y1, a = vR x0 y0 x1 y1) ∨ ∃ b, a = vB b
theorem okA_canon {c : UInt8} {v : Av} (h : okA c v) : canon v := by
  rcases h with ⟨_, n, h, _⟩ | ⟨_, n, h, _⟩ | ⟨_, s, h, _⟩ | ⟨_, x0, y0, x1, y1, h, _⟩ | ⟨_, b, h, _⟩
  · exact .inl ⟨n, h⟩
  · exact .inl ⟨n, h⟩
  · exact .inr (.inl ⟨s, h⟩)
  · exact .inr (.inr (.inl ⟨_, _, _, _, h⟩))
  · exact .inr (.inr (.inr ⟨b, h⟩))
theorem get8 {w : World} {b : Nat} {z0 z1 z2 z3 z4 z5 z6 z7 : Value} {t : TypeId} (h : At w b #[z0, z1, z2, z3, z4, z5, z6, z7] t) : w.cell? ⟨b, 0, none⟩ = some z0 ∧ w.cell? ⟨b, 1, none⟩ = some z1 ∧ w.cell? ⟨b, 2, none⟩ = some z2 ∧ w.cell? ⟨b, 3, none⟩ = some z3 ∧
    w.cell? ⟨b, 4, none⟩ = some z4 ∧ w.cell? ⟨b, 5, none⟩ = some z5 ∧ w.cell? ⟨b, 6, none⟩ = some z6 ∧ w.cell? ⟨b, 7, none⟩ = some z7 :=
  ⟨h.cell 0, h.cell 1, h.cell 2, h.cell 3, h.cell 4, h.cell 5, h.cell 6, h.cell 7⟩
theorem sv_nil {w : World} {A : Option Addr} {c n : Nat} {L : List Int} (h : Sv w (.slice A n c) L) : n = L.length ∧ RwB w A L ∧ (A = none → c = 0) ∧ L.length ≤ c ∧ c ≤ maxLen := by
  obtain ⟨A', c', h1, h2, h3, h4, h5⟩ := h
  injection h1 with e1 e2 e3
  subst e1 e3
  exact ⟨e2, h5, h2, h3, h4⟩

end Go.Proofs.YthkbenhlhldglaaDoor
