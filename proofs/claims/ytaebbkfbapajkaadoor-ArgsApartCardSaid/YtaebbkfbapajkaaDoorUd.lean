/-
  What is proved: what an interface value is told to be: Int, Text, Rect, Bytes of package args; as of the statements. No conditions.
-/
import Derived.Test.YtaebbkfbapajkaaDoorUb
import Derived.Test.YtaebbkfbapajkaaDoorOcl
namespace Go.Proofs.YtaebbkfbapajkaaDoor
open Go.RowKit Go.Sort

theorem ta_int_int (w : World) (n : Int) : (Instr.typeAssert (.iface 3 (.int .i64 n)) 20 3 true).run Tryd.prog w = .ok (.tuple #[.int .i64 n, .bool true]) w := by kernel_rfl
theorem ta_int_string (w : World) (n : Int) : (Instr.typeAssert (.iface 3 (.int .i64 n)) 20 9 true).run Tryd.prog w = .ok (.tuple #[.string ⟨#[]⟩, .bool false]) w := by kernel_rfl
theorem ta_int_rect (w : World) (n : Int) : (Instr.typeAssert (.iface 3 (.int .i64 n)) 20 45 true).run Tryd.prog w = .ok (.tuple #[.agg #[.int .i64 0, .int .i64 0, .int .i64 0, .int .i64 0], .bool false]) w := by kernel_rfl
theorem ta_int_bytes (w : World) (n : Int) : (Instr.typeAssert (.iface 3 (.int .i64 n)) 20 28 true).run Tryd.prog w = .ok (.tuple #[.slice none 0 0, .bool false]) w := by kernel_rfl
theorem ta_string_int (w : World) (s : ByteArray) : (Instr.typeAssert (.iface 9 (.string s)) 20 3 true).run Tryd.prog w = .ok (.tuple #[.int .i64 0, .bool false]) w := by kernel_rfl
theorem ta_string_string (w : World) (s : ByteArray) : (Instr.typeAssert (.iface 9 (.string s)) 20 9 true).run Tryd.prog w = .ok (.tuple #[.string s, .bool true]) w := by kernel_rfl
theorem ta_string_rect (w : World) (s : ByteArray) : (Instr.typeAssert (.iface 9 (.string s)) 20 45 true).run Tryd.prog w = .ok (.tuple #[.agg #[.int .i64 0, .int .i64 0, .int .i64 0, .int .i64 0], .bool false]) w := by kernel_rfl
theorem ta_string_bytes (w : World) (s : ByteArray) : (Instr.typeAssert (.iface 9 (.string s)) 20 28 true).run Tryd.prog w = .ok (.tuple #[.slice none 0 0, .bool false]) w := by kernel_rfl
theorem ta_rect_int (w : World) (x0 y0 x1 y1 : Int) : (Instr.typeAssert (.iface 45 (.agg #[.int .i64 x0, .int .i64 y0, .int .i64 x1, .int .i64 y1])) 20 3 true).run Tryd.prog w = .ok (.tuple #[.int .i64 0, .bool false]) w := by kernel_rfl
theorem ta_rect_string (w : World) (x0 y0 x1 y1 : Int) : (Instr.typeAssert (.iface 45 (.agg #[.int .i64 x0, .int .i64 y0, .int .i64 x1, .int .i64 y1])) 20 9 true).run Tryd.prog w = .ok (.tuple #[.string ⟨#[]⟩, .bool false]) w := by kernel_rfl
theorem ta_rect_rect (w : World) (x0 y0 x1 y1 : Int) : (Instr.typeAssert (.iface 45 (.agg #[.int .i64 x0, .int .i64 y0, .int .i64 x1, .int .i64 y1])) 20 45 true).run Tryd.prog w = .ok (.tuple #[.agg #[.int .i64 x0, .int .i64 y0, .int .i64 x1, .int .i64 y1], .bool true]) w := by kernel_rfl
theorem ta_rect_bytes (w : World) (x0 y0 x1 y1 : Int) : (Instr.typeAssert (.iface 45 (.agg #[.int .i64 x0, .int .i64 y0, .int .i64 x1, .int .i64 y1])) 20 28 true).run Tryd.prog w = .ok (.tuple #[.slice none 0 0, .bool false]) w := by kernel_rfl
theorem ta_bytes_int (w : World) (v : Value) : (Instr.typeAssert (.iface 28 (v)) 20 3 true).run Tryd.prog w = .ok (.tuple #[.int .i64 0, .bool false]) w := by kernel_rfl
theorem ta_bytes_string (w : World) (v : Value) : (Instr.typeAssert (.iface 28 (v)) 20 9 true).run Tryd.prog w = .ok (.tuple #[.string ⟨#[]⟩, .bool false]) w := by kernel_rfl
theorem ta_bytes_rect (w : World) (v : Value) : (Instr.typeAssert (.iface 28 (v)) 20 45 true).run Tryd.prog w = .ok (.tuple #[.agg #[.int .i64 0, .int .i64 0, .int .i64 0, .int .i64 0], .bool false]) w := by kernel_rfl
theorem ta_bytes_bytes (w : World) (v : Value) : (Instr.typeAssert (.iface 28 (v)) 20 28 true).run Tryd.prog w = .ok (.tuple #[v, .bool true]) w := by kernel_rfl
theorem ta_bool_int (w : World) (b : Bool) : (Instr.typeAssert (.iface 4 (.bool b)) 20 3 true).run Tryd.prog w = .ok (.tuple #[.int .i64 0, .bool false]) w := by kernel_rfl
theorem ta_bool_string (w : World) (b : Bool) : (Instr.typeAssert (.iface 4 (.bool b)) 20 9 true).run Tryd.prog w = .ok (.tuple #[.string ⟨#[]⟩, .bool false]) w := by kernel_rfl
theorem ta_bool_rect (w : World) (b : Bool) : (Instr.typeAssert (.iface 4 (.bool b)) 20 45 true).run Tryd.prog w = .ok (.tuple #[.agg #[.int .i64 0, .int .i64 0, .int .i64 0, .int .i64 0], .bool false]) w := by kernel_rfl
theorem ta_bool_bytes (w : World) (b : Bool) : (Instr.typeAssert (.iface 4 (.bool b)) 20 28 true).run Tryd.prog w = .ok (.tuple #[.slice none 0 0, .bool false]) w := by kernel_rfl
attribute [local go_sem ↓] ta_int_int ta_int_string ta_int_rect ta_int_bytes ta_string_int ta_string_string ta_string_rect ta_string_bytes ta_rect_int ta_rect_string ta_rect_rect ta_rect_bytes ta_bytes_int ta_bytes_string ta_bytes_rect ta_bytes_bytes ta_bool_int ta_bool_string ta_bool_rect ta_bool_bytes

/-- What Int tells, and its like. -/
def rI (a : Av) : Value := .tuple #[.int .i64 (if a.k = 0 then a.n else 0), .bool (decide (a.k = 0))]
def rT (a : Av) : Value := .tuple #[.string (if a.k = 1 then a.s else ⟨#[]⟩), .bool (decide (a.k = 1))]
def rR (a : Av) : Value := .tuple #[if a.k = 2 then .agg #[.int .i64 a.x0, .int .i64 a.y0, .int .i64 a.x1, .int .i64 a.y1] else .agg #[.int .i64 0, .int .i64 0, .int .i64 0, .int .i64 0], .bool (decide (a.k = 2))]
theorem decT {p : Prop} [Decidable p] (h : p) : decide p = true := decide_eq_true h
theorem decF {p : Prop} [Decidable p] (h : ¬ p) : decide p = false := decide_eq_false h

theorem rI_yes {a : Av} (h : a.k = 0) : rI a = .tuple #[.int .i64 a.n, .bool true] := by unfold rI; rw [if_pos h, decT h]
theorem rI_no {a : Av} (h : ¬ a.k = 0) : rI a = .tuple #[.int .i64 0, .bool false] := by unfold rI; rw [if_neg h, decF h]
theorem rT_yes {a : Av} (h : a.k = 1) : rT a = .tuple #[.string a.s, .bool true] := by unfold rT; rw [if_pos h, decT h]
theorem rT_no {a : Av} (h : ¬ a.k = 1) : rT a = .tuple #[.string ⟨#[]⟩, .bool false] := by unfold rT; rw [if_neg h, decF h]
theorem rR_yes {a : Av} (h : a.k = 2) : rR a = .tuple #[.agg #[.int .i64 a.x0, .int .i64 a.y0, .int .i64 a.x1, .int .i64 a.y1], .bool true] := by unfold rR; rw [if_pos h, decT h]
theorem rR_no {a : Av} (h : ¬ a.k = 2) : rR a = .tuple #[.agg #[.int .i64 0, .int .i64 0, .int .i64 0, .int .i64 0], .bool false] := by unfold rR; rw [if_neg h, decF h]
theorem get4 {w : World} {b : Nat} {z0 z1 z2 z3 : Value} {t : TypeId} (h : At w b #[z0, z1, z2, z3] t) : w.cell? ⟨b, 0, none⟩ = some z0 ∧ w.cell? ⟨b, 1, none⟩ = some z1 ∧ w.cell? ⟨b, 2, none⟩ = some z2 ∧ w.cell? ⟨b, 3, none⟩ = some z3 :=
  ⟨h.cell 0, h.cell 1, h.cell 2, h.cell 3⟩

set_option maxRecDepth 100000 in
set_option maxHeartbeats 1000000 in
theorem int1 (a : Av) (v : Value) (w : World) (h : IsA w v a) : Calls Tryd.prog 25 #[v] w (Rt w (rI a)) := by
  rcases h with ⟨hk, rfl⟩ | ⟨hk, rfl⟩ | ⟨hk, rfl⟩ | ⟨hk, s, rfl, _⟩ | ⟨⟨hk, hk1, hk2, _⟩, rfl⟩
  all_goals
    first | rw [rI_yes hk] | rw [rI_no (by omega)]
    go_enter Tryd.func25, Tryd.ntmps25
    go_wp2
    go_ret2
    exact ⟨rfl, Gr.refl _⟩

set_option maxRecDepth 100000 in
set_option maxHeartbeats 1000000 in
theorem text1 (a : Av) (v : Value) (w : World) (h : IsA w v a) : Calls Tryd.prog 26 #[v] w (Rt w (rT a)) := by
  rcases h with ⟨hk, rfl⟩ | ⟨hk, rfl⟩ | ⟨hk, rfl⟩ | ⟨hk, s, rfl, _⟩ | ⟨⟨hk, hk1, hk2, _⟩, rfl⟩
  all_goals
    first | rw [rT_yes hk] | rw [rT_no (by omega)]
    go_enter Tryd.func26, Tryd.ntmps26
    go_wp2
    go_ret2
    exact ⟨rfl, Gr.refl _⟩

set_option maxRecDepth 100000 in
set_option maxHeartbeats 1000000 in
theorem rect1 (a : Av) (v : Value) (w : World) (h : IsA w v a) : Calls Tryd.prog 27 #[v] w (Rt w (rR a)) := by
  rcases h with ⟨hk, rfl⟩ | ⟨hk, rfl⟩ | ⟨hk, rfl⟩ | ⟨hk, s, rfl, _⟩ | ⟨⟨hk, hk1, hk2, _⟩, rfl⟩
  all_goals
    first | rw [rR_yes hk] | rw [rR_no (by omega)]
    go_enter Tryd.func27, Tryd.ntmps27
    go_wp2
    first | exact bodyPost_ret (v := .tuple #[.agg #[.int .i64 0, .int .i64 0, .int .i64 0, .int .i64 0], .bool false]) (by simp [results, Tryd.results27, go_sem]) rfl ⟨rfl, ((Gr.refl _).alloc _).alloc _⟩ | exact bodyPost_ret (v := .tuple #[.agg #[.int .i64 a.x0, .int .i64 a.y0, .int .i64 a.x1, .int .i64 a.y1], .bool true]) (by simp [results, Tryd.results27, go_sem]) rfl ⟨rfl, ((Gr.refl _).alloc _).alloc _⟩

/-- What Bytes tells. -/
def BytesQ (w : World) (a : Av) (e : Ending) (w' : World) : Prop := ∃ A c, e = .returned (.tuple #[.slice A (if a.k = 3 then a.b else []).length c, .bool (decide (a.k = 3))]) ∧ Sv w' (.slice A (if a.k = 3 then a.b else []).length c) (if a.k = 3 then a.b else []) ∧ Bl w w'
set_option maxRecDepth 100000 in
set_option maxHeartbeats 1000000 in
theorem bytes1 (a : Av) (v : Value) (w : World) (h : IsA w v a) (hl : a.b.length ≤ 1000000) : Calls Tryd.prog 28 #[v] w (BytesQ w a) := by
  by_cases h3 : a.k = 3
  · obtain ⟨s, rfl, A, c, rfl, _, _, _, hA⟩ : ∃ s, v = .iface 28 s ∧ Sv w s a.b := by
      rcases h with ⟨hk, _⟩ | ⟨hk, _⟩ | ⟨hk, _⟩ | ⟨_, s, h1, h2⟩ | ⟨hk, _⟩
      · omega
      · omega
      · omega
      · exact ⟨s, h1, h2⟩
      · exact absurd h3 hk.2.2.2
    have cc := clone1 A c a.b w hA hl
    unfold BytesQ
    rw [if_pos h3, decT h3]
    clear h h3
    generalize a.b = L at *
    generalize L.length = n at *
    go_enter Tryd.func28, Tryd.ntmps28
    go_wp2_with fail
    refine cc.mono ?_
    rintro e w' ⟨A', c', rfl, hs, _, hb⟩
    go_wp2
    go_ret2
    exact ⟨A', c', rfl, hs, hb⟩
  · have cc := sh_bytes_Clone_nil 0 0 w
    unfold BytesQ
    rw [if_neg h3, decF h3]
    rcases h with ⟨hk, rfl⟩ | ⟨hk, rfl⟩ | ⟨hk, rfl⟩ | ⟨hk, s, rfl, _⟩ | ⟨⟨hk, hk1, hk2, _⟩, rfl⟩
    all_goals first | (exfalso; exact h3 hk) | skip
    all_goals
      go_enter Tryd.func28, Tryd.ntmps28
      go_wp2_with fail
      refine cc.mono ?_
      rintro e w' ⟨rfl, rfl⟩
      go_wp2
      go_ret2
      exact ⟨none, 0, rfl, Sv.nil _, Bl.refl _⟩

/-- What 'as' hands back. -/
def asV (p : Av × Value) : Value :=
  if p.1.k = 0 then .iface 3 (.int .i64 p.1.n) else if p.1.k = 1 then .iface 9 (.string p.1.s) else if p.1.k = 2 then .iface 45 (.agg #[.int .i64 p.1.x0, .int .i64 p.1.y0, .int .i64 p.1.x1, .int .i64 p.1.y1])
  else if p.1.k = 3 then .iface 28 p.2 else .iface 4 (.bool true)
theorem asV_is {w : World} {p : Av × Value} (h : Sv w p.2 p.1.b) : IsA w (asV p) p.1 := by
  unfold asV
  by_cases h0 : p.1.k = 0
  · rw [if_pos h0]; exact .inl ⟨h0, rfl⟩
  · rw [if_neg h0]
    by_cases h1 : p.1.k = 1
    · rw [if_pos h1]; exact .inr (.inl ⟨h1, rfl⟩)
    · rw [if_neg h1]
      by_cases h2 : p.1.k = 2
      · rw [if_pos h2]; exact .inr (.inr (.inl ⟨h2, rfl⟩))
      · rw [if_neg h2]
        by_cases h3 : p.1.k = 3
        · rw [if_pos h3]; exact .inr (.inr (.inr (.inl ⟨h3, _, rfl, h⟩)))
        · rw [if_neg h3]; exact .inr (.inr (.inr (.inr ⟨⟨h0, h1, h2, h3⟩, rfl⟩)))
set_option maxRecDepth 100000 in
set_option maxHeartbeats 1000000 in
theorem as1 (p : Av × Value) (w : World) : Calls Tryd.prog 24 #[g8 p] w (Rt w (asV p)) := by
  obtain ⟨⟨k, n, s, x0, y0, x1, y1, b⟩, v⟩ := p
  unfold g8 asV
  dsimp only
  have g : ∀ z : Array Value, Gr w (w.alloc (.cells z 47)) := fun z => (Gr.refl w).alloc _
  replace g := Lib.hid g
  by_cases h0 : k = 0
  · subst h0
    rw [if_pos rfl]
    go_enter Tryd.func24, Tryd.ntmps24
    go_wp2
    go_ret
    exact ⟨rfl, g.out _⟩
  · rw [if_neg h0]
    by_cases h1 : k = 1
    · subst h1
      rw [if_pos rfl]
      go_enter Tryd.func24, Tryd.ntmps24
      go_wp2
      go_ret
      exact ⟨rfl, g.out _⟩
    · rw [if_neg h1]
      by_cases h2 : k = 2
      · subst h2
        rw [if_pos rfl]
        go_enter Tryd.func24, Tryd.ntmps24
        go_wp2
        go_ret
        exact ⟨rfl, g.out _⟩
      · rw [if_neg h2]
        by_cases h3 : k = 3
        · subst h3
          rw [if_pos rfl]
          go_enter Tryd.func24, Tryd.ntmps24
          go_wp2
          go_ret
          exact ⟨rfl, g.out _⟩
        · rw [if_neg h3]
          go_enter Tryd.func24, Tryd.ntmps24
          go_wp2
          go_ret
          exact ⟨rfl, g.out _⟩

set_option maxRecDepth 100000 in
set_option maxHeartbeats 2000000 in
/-- Two arguments that are the same but for their numbers. -/
theorem same1 (a : Av) (m : Int) (u v : Value) (w : World) (hu : Sv w u a.b) (hv : Sv w v a.b) :
    Calls Tryd.prog 23 #[g8 (a, u), g8 ({ a with n := m }, v)] w fun e w' => e = .returned (.bool (decide (a.n = m))) ∧ Bl w w' := by
  obtain ⟨k, n, s, x0, y0, x1, y1, b⟩ := a
  unfold g8
  dsimp only at *
  obtain ⟨A1, c1, rfl, _, _, _, r1⟩ := hu
  obtain ⟨A2, c2, rfl, _, _, _, r2⟩ := hv
  have g : Gr w ((w.alloc (.cells #[.int .i64 k, .int .i64 n, .string s, .int .i64 x0, .int .i64 y0, .int .i64 x1, .int .i64 y1, .slice A1 b.length c1] 47)).alloc (.cells #[.int .i64 k, .int .i64 m, .string s, .int .i64 x0, .int .i64 y0, .int .i64 x1, .int .i64 y1, .slice A2 b.length c2] 47)) := ((Gr.refl w).alloc _).alloc _
  have t1 := Sv.text (c := c1) (r1.bl g.bl)
  have t2 := Sv.text (c := c2) (r2.bl g.bl)
  generalize strOfNums b = S at *
  generalize b.length = nb at *
  clear r1 r2
  have gg := Lib.hid g.bl
  clear g
  by_cases h : n = m
  · subst h
    rw [decT (rfl : n = n)]
    go_enter Tryd.func23, Tryd.ntmps23
    go_wp2
    go_ret
    exact ⟨by simp, gg.out⟩
  · rw [decF h]
    go_enter Tryd.func23, Tryd.ntmps23
    go_wp2
    go_ret
    exact ⟨by simp, gg.out⟩

/-- One of the four kinds, nothing beside. -/
def canon (a : Av) : Prop := (∃ n, a = vI n) ∨ (∃ s, a = vS s) ∨ (∃ x0 y0 x1 y1, a = vR x0 y0 x1 y1) ∨ ∃ b, a = vB b
theorem okA_canon {c : UInt8} {v : Av} (h : okA c v) : canon v := by
  rcases h with ⟨_, n, h, _⟩ | ⟨_, n, h, _⟩ | ⟨_, s, h, _⟩ | ⟨_, x0, y0, x1, y1, h, _⟩ | ⟨_, b, h, _⟩
  · exact .inl ⟨n, h⟩
  · exact .inl ⟨n, h⟩
  · exact .inr (.inl ⟨s, h⟩)
  · exact .inr (.inr (.inl ⟨_, _, _, _, h⟩))
  · exact .inr (.inr (.inr ⟨b, h⟩))
theorem get8 {w : World} {b : Nat} {z0 z1 z2 z3 z4 z5 z6 z7 : Value} {t : TypeId} (h : At w b #[z0, z1, z2, z3, z4, z5, z6, z7] t) : w.cell? ⟨b, 0, none⟩ = some z0 ∧ w.cell? ⟨b, 1, none⟩ = some z1 ∧ w.cell? ⟨b, 2, none⟩ = some z2 ∧ w.cell? ⟨b, 3, none⟩ = some z3 ∧
    w.cell? ⟨b, 4, none⟩ = some z4 ∧ w.cell? ⟨b, 5, none⟩ = some z5 ∧ w.cell? ⟨b, 6, none⟩ = some z6 ∧ w.cell? ⟨b, 7, none⟩ = some z7 :=
  ⟨h.cell 0, h.cell 1, h.cell 2, h.cell 3, h.cell 4, h.cell 5, h.cell 6, h.cell 7⟩
theorem same2 (a : Av) (u v : Value) (w : World) (hu : Sv w u a.b) (hv : Sv w v a.b) :
    Calls Tryd.prog 23 #[g8 (a, u), g8 (a, v)] w fun e w' => e = .returned (.bool true) ∧ Bl w w' :=
  (same1 a a.n u v w hu hv).mono fun e w' ⟨he, hb⟩ => ⟨by rw [he]; simp, hb⟩
theorem sv_nil {w : World} {A : Option Addr} {c n : Nat} {L : List Int} (h : Sv w (.slice A n c) L) : n = L.length ∧ RwB w A L ∧ (A = none → c = 0) ∧ L.length ≤ c ∧ c ≤ maxLen := by
  obtain ⟨A', c', h1, h2, h3, h4, h5⟩ := h
  injection h1 with e1 e2 e3
  subst e1 e3
  exact ⟨e2, h5, h2, h3, h4⟩

set_option maxRecDepth 100000 in
set_option maxHeartbeats 2000000 in
theorem likeI (n : Int) (v : Value) (A : Option Addr) (c : Nat) (w : World) (hv : IsA w v (vI n)) (hu : Sv w (.slice A 0 c) []) (hl : ([] : List Int).length ≤ 1000000) :
    Calls Tryd.prog 21 #[v, .agg #[.int .i64 0, .int .i64 n, .string ⟨#[]⟩, .int .i64 0, .int .i64 0, .int .i64 0, .int .i64 0, .slice A 0 c]] w fun e w' => e = .returned (.bool true) ∧ Bl w w' := by
  obtain ⟨W, hW⟩ : ∃ W, W = w.alloc (.cells #[.int .i64 0, .int .i64 n, .string ⟨#[]⟩, .int .i64 0, .int .i64 0, .int .i64 0, .int .i64 0, .slice A 0 c] 47) := ⟨_, rfl⟩
  have a0 : At W w.heap.size #[.int .i64 0, .int .i64 n, .string ⟨#[]⟩, .int .i64 0, .int .i64 0, .int .i64 0, .int .i64 0, .slice A 0 c] 47 := by rw [hW]; exact At.new _ _ _
  have G0 : Bl w W := by rw [hW]; exact (Bl.refl w).alloc _
  have ci := fun (V : World) (g : Bl w V) => int1 _ v V (hv.bl g)
  have ct := fun (V : World) (g : Bl w V) => text1 _ v V (hv.bl g)
  have cr := fun (V : World) (g : Bl w V) => rect1 _ v V (hv.bl g)
  have cb := fun (V : World) (g : Bl w V) => bytes1 _ v V (hv.bl g) hl
  rw [rI_yes rfl] at ci
  rw [rT_no (by simp [vI])] at ct
  rw [rR_no (by simp [vI])] at cr
  unfold BytesQ at cb
  rw [if_neg (show ¬ (vI n).k = 3 by simp [vI]), decF (show ¬ (vI n).k = 3 by simp [vI])] at cb
  dsimp only [vI, vS, vR, vB, List.length_nil] at ci ct cr cb
  replace hu := Lib.hid hu
  replace hl := Lib.hid hl
  replace hv := Lib.hid hv
  replace ci := Lib.hid ci
  replace ct := Lib.hid ct
  replace cr := Lib.hid cr
  replace cb := Lib.hid cb
  obtain ⟨pw, hpw⟩ : ∃ p, p = w.heap.size := ⟨_, rfl⟩
  rw [← hpw] at a0
  replace hpw := Lib.hid hpw
  go_enter Tryd.func21, Tryd.ntmps21
  go_wp2_with fail
  rw [← hW, ← hpw.out]
  clear hW
  refine (ci.out W G0).mono ?_
  rintro e w1 ⟨rfl, g1⟩
  have G1 := G0.gr g1
  have a1 := a0.gr g1
  clear g1 a0
  go_wp2_with fail
  refine (ct.out w1 G1).mono ?_
  rintro e w2 ⟨rfl, g2⟩
  have G2 := G1.gr g2
  have a2 := a1.gr g2
  clear g2 a1
  go_wp2_with fail
  refine (cr.out w2 G2).mono ?_
  rintro e w3 ⟨rfl, g3⟩
  have G3 := (G2.gr g3).alloc (.cells #[.int .i64 0, .int .i64 0, .int .i64 0, .int .i64 0] 45)
  have a3 := (a2.gr g3).alloc (.cells #[.int .i64 0, .int .i64 0, .int .i64 0, .int .i64 0] 45)
  have b3 := At.new w3 #[.int .i64 0, .int .i64 0, .int .i64 0, .int .i64 0] 45
  obtain ⟨p3, hp3⟩ : ∃ p, p = w3.heap.size := ⟨_, rfl⟩
  rw [← hp3] at b3
  obtain ⟨V3, hV3⟩ : ∃ V, V = w3.alloc (.cells #[.int .i64 0, .int .i64 0, .int .i64 0, .int .i64 0] 45) := ⟨_, rfl⟩
  rw [← hV3] at G3 a3 b3
  replace hp3 := Lib.hid hp3
  clear g3 a2
  go_wp2_with fail
  rw [← hV3, ← hp3.out]
  clear hV3
  refine (cb.out V3 G3).mono ?_
  rintro e w4 ⟨A4, c4, rfl, s4, g4⟩
  have G4 := G3.trans g4
  have a4 := a3.bl g4
  have b4 := b3.bl g4
  clear g4 a3 b3 ci ct cr cb
  obtain ⟨q0, q1, q2, q3⟩ := get4 b4
  have u0 : w4.cell? ⟨pw, 0, none⟩ = _ := a4.cell 0
  simp only [List.getElem?_toArray, List.getElem?_cons_zero] at u0
  replace s4 := Lib.hid s4
  have G5 := G4.alloc (.cells #[.int .i64 0, .int .i64 n, .string ⟨#[]⟩, .int .i64 0, .int .i64 0, .int .i64 0, .int .i64 0, .slice A4 0 c4] 47)
  have a5 := a4.alloc (.cells #[.int .i64 0, .int .i64 n, .string ⟨#[]⟩, .int .i64 0, .int .i64 0, .int .i64 0, .int .i64 0, .slice A4 0 c4] 47)
  have b5 := At.new w4 #[.int .i64 0, .int .i64 n, .string ⟨#[]⟩, .int .i64 0, .int .i64 0, .int .i64 0, .int .i64 0, .slice A4 0 c4] 47
  have hu5 := hu.out.bl G5
  have s5 := s4.out.bl ((Bl.refl w4).alloc (.cells #[.int .i64 0, .int .i64 n, .string ⟨#[]⟩, .int .i64 0, .int .i64 0, .int .i64 0, .int .i64 0, .slice A4 0 c4] 47))
  obtain ⟨x0', x1', x2', x3', x4', x5', x6', x7'⟩ := get8 a5
  obtain ⟨y0', y1', y2', y3', y4', y5', y6', y7'⟩ := get8 b5
  have cs := same2 (vI n) _ _ _ s5 hu5
  dsimp only [vI, vS, vR, vB, g8, List.length_nil] at cs
  replace cs := Lib.hid cs
  clear a4 b4 a5 b5 s5 hu5
  go_wp2_with fail
  refine cs.out.mono ?_
  rintro e w6 ⟨rfl, g6⟩
  go_wp2
  go_ret
  exact ⟨rfl, G5.trans g6⟩

set_option maxRecDepth 100000 in
set_option maxHeartbeats 2000000 in
theorem likeS (s : ByteArray) (v : Value) (A : Option Addr) (c : Nat) (w : World) (hv : IsA w v (vS s)) (hu : Sv w (.slice A 0 c) []) (hl : ([] : List Int).length ≤ 1000000) :
    Calls Tryd.prog 21 #[v, .agg #[.int .i64 1, .int .i64 0, .string s, .int .i64 0, .int .i64 0, .int .i64 0, .int .i64 0, .slice A 0 c]] w fun e w' => e = .returned (.bool true) ∧ Bl w w' := by
  obtain ⟨W, hW⟩ : ∃ W, W = w.alloc (.cells #[.int .i64 1, .int .i64 0, .string s, .int .i64 0, .int .i64 0, .int .i64 0, .int .i64 0, .slice A 0 c] 47) := ⟨_, rfl⟩
  have a0 : At W w.heap.size #[.int .i64 1, .int .i64 0, .string s, .int .i64 0, .int .i64 0, .int .i64 0, .int .i64 0, .slice A 0 c] 47 := by rw [hW]; exact At.new _ _ _
  have G0 : Bl w W := by rw [hW]; exact (Bl.refl w).alloc _
  have ci := fun (V : World) (g : Bl w V) => int1 _ v V (hv.bl g)
  have ct := fun (V : World) (g : Bl w V) => text1 _ v V (hv.bl g)
  have cr := fun (V : World) (g : Bl w V) => rect1 _ v V (hv.bl g)
  have cb := fun (V : World) (g : Bl w V) => bytes1 _ v V (hv.bl g) hl
  rw [rI_no (by simp [vS])] at ci
  rw [rT_yes rfl] at ct
  rw [rR_no (by simp [vS])] at cr
  unfold BytesQ at cb
  rw [if_neg (show ¬ (vS s).k = 3 by simp [vS]), decF (show ¬ (vS s).k = 3 by simp [vS])] at cb
  dsimp only [vI, vS, vR, vB, List.length_nil] at ci ct cr cb
  replace hu := Lib.hid hu
  replace hl := Lib.hid hl
  replace hv := Lib.hid hv
  replace ci := Lib.hid ci
  replace ct := Lib.hid ct
  replace cr := Lib.hid cr
  replace cb := Lib.hid cb
  obtain ⟨pw, hpw⟩ : ∃ p, p = w.heap.size := ⟨_, rfl⟩
  rw [← hpw] at a0
  replace hpw := Lib.hid hpw
  go_enter Tryd.func21, Tryd.ntmps21
  go_wp2_with fail
  rw [← hW, ← hpw.out]
  clear hW
  refine (ci.out W G0).mono ?_
  rintro e w1 ⟨rfl, g1⟩
  have G1 := G0.gr g1
  have a1 := a0.gr g1
  clear g1 a0
  go_wp2_with fail
  refine (ct.out w1 G1).mono ?_
  rintro e w2 ⟨rfl, g2⟩
  have G2 := G1.gr g2
  have a2 := a1.gr g2
  clear g2 a1
  go_wp2_with fail
  refine (cr.out w2 G2).mono ?_
  rintro e w3 ⟨rfl, g3⟩
  have G3 := (G2.gr g3).alloc (.cells #[.int .i64 0, .int .i64 0, .int .i64 0, .int .i64 0] 45)
  have a3 := (a2.gr g3).alloc (.cells #[.int .i64 0, .int .i64 0, .int .i64 0, .int .i64 0] 45)
  have b3 := At.new w3 #[.int .i64 0, .int .i64 0, .int .i64 0, .int .i64 0] 45
  obtain ⟨p3, hp3⟩ : ∃ p, p = w3.heap.size := ⟨_, rfl⟩
  rw [← hp3] at b3
  obtain ⟨V3, hV3⟩ : ∃ V, V = w3.alloc (.cells #[.int .i64 0, .int .i64 0, .int .i64 0, .int .i64 0] 45) := ⟨_, rfl⟩
  rw [← hV3] at G3 a3 b3
  replace hp3 := Lib.hid hp3
  clear g3 a2
  go_wp2_with fail
  rw [← hV3, ← hp3.out]
  clear hV3
  refine (cb.out V3 G3).mono ?_
  rintro e w4 ⟨A4, c4, rfl, s4, g4⟩
  have G4 := G3.trans g4
  have a4 := a3.bl g4
  have b4 := b3.bl g4
  clear g4 a3 b3 ci ct cr cb
  obtain ⟨q0, q1, q2, q3⟩ := get4 b4
  have u0 : w4.cell? ⟨pw, 0, none⟩ = _ := a4.cell 0
  simp only [List.getElem?_toArray, List.getElem?_cons_zero] at u0
  replace s4 := Lib.hid s4
  have G5 := G4.alloc (.cells #[.int .i64 1, .int .i64 0, .string s, .int .i64 0, .int .i64 0, .int .i64 0, .int .i64 0, .slice A4 0 c4] 47)
  have a5 := a4.alloc (.cells #[.int .i64 1, .int .i64 0, .string s, .int .i64 0, .int .i64 0, .int .i64 0, .int .i64 0, .slice A4 0 c4] 47)
  have b5 := At.new w4 #[.int .i64 1, .int .i64 0, .string s, .int .i64 0, .int .i64 0, .int .i64 0, .int .i64 0, .slice A4 0 c4] 47
  have hu5 := hu.out.bl G5
  have s5 := s4.out.bl ((Bl.refl w4).alloc (.cells #[.int .i64 1, .int .i64 0, .string s, .int .i64 0, .int .i64 0, .int .i64 0, .int .i64 0, .slice A4 0 c4] 47))
  obtain ⟨x0', x1', x2', x3', x4', x5', x6', x7'⟩ := get8 a5
  obtain ⟨y0', y1', y2', y3', y4', y5', y6', y7'⟩ := get8 b5
  have cs := same2 (vS s) _ _ _ s5 hu5
  dsimp only [vI, vS, vR, vB, g8, List.length_nil] at cs
  replace cs := Lib.hid cs
  clear a4 b4 a5 b5 s5 hu5
  go_wp2_with fail
  refine cs.out.mono ?_
  rintro e w6 ⟨rfl, g6⟩
  go_wp2
  go_ret
  exact ⟨rfl, G5.trans g6⟩

set_option maxRecDepth 100000 in
set_option maxHeartbeats 2000000 in
theorem likeR (x0 y0 x1 y1 : Int) (v : Value) (A : Option Addr) (c : Nat) (w : World) (hv : IsA w v (vR x0 y0 x1 y1)) (hu : Sv w (.slice A 0 c) []) (hl : ([] : List Int).length ≤ 1000000) :
    Calls Tryd.prog 21 #[v, .agg #[.int .i64 2, .int .i64 0, .string ⟨#[]⟩, .int .i64 x0, .int .i64 y0, .int .i64 x1, .int .i64 y1, .slice A 0 c]] w fun e w' => e = .returned (.bool true) ∧ Bl w w' := by
  obtain ⟨W, hW⟩ : ∃ W, W = w.alloc (.cells #[.int .i64 2, .int .i64 0, .string ⟨#[]⟩, .int .i64 x0, .int .i64 y0, .int .i64 x1, .int .i64 y1, .slice A 0 c] 47) := ⟨_, rfl⟩
  have a0 : At W w.heap.size #[.int .i64 2, .int .i64 0, .string ⟨#[]⟩, .int .i64 x0, .int .i64 y0, .int .i64 x1, .int .i64 y1, .slice A 0 c] 47 := by rw [hW]; exact At.new _ _ _
  have G0 : Bl w W := by rw [hW]; exact (Bl.refl w).alloc _
  have ci := fun (V : World) (g : Bl w V) => int1 _ v V (hv.bl g)
  have ct := fun (V : World) (g : Bl w V) => text1 _ v V (hv.bl g)
  have cr := fun (V : World) (g : Bl w V) => rect1 _ v V (hv.bl g)
  have cb := fun (V : World) (g : Bl w V) => bytes1 _ v V (hv.bl g) hl
  rw [rI_no (by simp [vR])] at ci
  rw [rT_no (by simp [vR])] at ct
  rw [rR_yes rfl] at cr
  unfold BytesQ at cb
  rw [if_neg (show ¬ (vR x0 y0 x1 y1).k = 3 by simp [vR]), decF (show ¬ (vR x0 y0 x1 y1).k = 3 by simp [vR])] at cb
  dsimp only [vI, vS, vR, vB, List.length_nil] at ci ct cr cb
  replace hu := Lib.hid hu
  replace hl := Lib.hid hl
  replace hv := Lib.hid hv
  replace ci := Lib.hid ci
  replace ct := Lib.hid ct
  replace cr := Lib.hid cr
  replace cb := Lib.hid cb
  obtain ⟨pw, hpw⟩ : ∃ p, p = w.heap.size := ⟨_, rfl⟩
  rw [← hpw] at a0
  replace hpw := Lib.hid hpw
  go_enter Tryd.func21, Tryd.ntmps21
  go_wp2_with fail
  rw [← hW, ← hpw.out]
  clear hW
  refine (ci.out W G0).mono ?_
  rintro e w1 ⟨rfl, g1⟩
  have G1 := G0.gr g1
  have a1 := a0.gr g1
  clear g1 a0
  go_wp2_with fail
  refine (ct.out w1 G1).mono ?_
  rintro e w2 ⟨rfl, g2⟩
  have G2 := G1.gr g2
  have a2 := a1.gr g2
  clear g2 a1
  go_wp2_with fail
  refine (cr.out w2 G2).mono ?_
  rintro e w3 ⟨rfl, g3⟩
  have G3 := (G2.gr g3).alloc (.cells #[.int .i64 x0, .int .i64 y0, .int .i64 x1, .int .i64 y1] 45)
  have a3 := (a2.gr g3).alloc (.cells #[.int .i64 x0, .int .i64 y0, .int .i64 x1, .int .i64 y1] 45)
  have b3 := At.new w3 #[.int .i64 x0, .int .i64 y0, .int .i64 x1, .int .i64 y1] 45
  obtain ⟨p3, hp3⟩ : ∃ p, p = w3.heap.size := ⟨_, rfl⟩
  rw [← hp3] at b3
  obtain ⟨V3, hV3⟩ : ∃ V, V = w3.alloc (.cells #[.int .i64 x0, .int .i64 y0, .int .i64 x1, .int .i64 y1] 45) := ⟨_, rfl⟩
  rw [← hV3] at G3 a3 b3
  replace hp3 := Lib.hid hp3
  clear g3 a2
  go_wp2_with fail
  rw [← hV3, ← hp3.out]
  clear hV3
  refine (cb.out V3 G3).mono ?_
  rintro e w4 ⟨A4, c4, rfl, s4, g4⟩
  have G4 := G3.trans g4
  have a4 := a3.bl g4
  have b4 := b3.bl g4
  clear g4 a3 b3 ci ct cr cb
  obtain ⟨q0, q1, q2, q3⟩ := get4 b4
  have u0 : w4.cell? ⟨pw, 0, none⟩ = _ := a4.cell 0
  simp only [List.getElem?_toArray, List.getElem?_cons_zero] at u0
  replace s4 := Lib.hid s4
  have G5 := G4.alloc (.cells #[.int .i64 2, .int .i64 0, .string ⟨#[]⟩, .int .i64 x0, .int .i64 y0, .int .i64 x1, .int .i64 y1, .slice A4 0 c4] 47)
  have a5 := a4.alloc (.cells #[.int .i64 2, .int .i64 0, .string ⟨#[]⟩, .int .i64 x0, .int .i64 y0, .int .i64 x1, .int .i64 y1, .slice A4 0 c4] 47)
  have b5 := At.new w4 #[.int .i64 2, .int .i64 0, .string ⟨#[]⟩, .int .i64 x0, .int .i64 y0, .int .i64 x1, .int .i64 y1, .slice A4 0 c4] 47
  have hu5 := hu.out.bl G5
  have s5 := s4.out.bl ((Bl.refl w4).alloc (.cells #[.int .i64 2, .int .i64 0, .string ⟨#[]⟩, .int .i64 x0, .int .i64 y0, .int .i64 x1, .int .i64 y1, .slice A4 0 c4] 47))
  obtain ⟨x0', x1', x2', x3', x4', x5', x6', x7'⟩ := get8 a5
  obtain ⟨y0', y1', y2', y3', y4', y5', y6', y7'⟩ := get8 b5
  have cs := same2 (vR x0 y0 x1 y1) _ _ _ s5 hu5
  dsimp only [vI, vS, vR, vB, g8, List.length_nil] at cs
  replace cs := Lib.hid cs
  clear a4 b4 a5 b5 s5 hu5
  go_wp2_with fail
  refine cs.out.mono ?_
  rintro e w6 ⟨rfl, g6⟩
  go_wp2
  go_ret
  exact ⟨rfl, G5.trans g6⟩

set_option maxRecDepth 100000 in
set_option maxHeartbeats 2000000 in
theorem likeB (b : List Int) (v : Value) (A : Option Addr) (c : Nat) (w : World) (hv : IsA w v (vB b)) (hu : Sv w (.slice A b.length c) b) (hl : (b : List Int).length ≤ 1000000) :
    Calls Tryd.prog 21 #[v, .agg #[.int .i64 3, .int .i64 0, .string ⟨#[]⟩, .int .i64 0, .int .i64 0, .int .i64 0, .int .i64 0, .slice A b.length c]] w fun e w' => e = .returned (.bool true) ∧ Bl w w' := by
  obtain ⟨W, hW⟩ : ∃ W, W = w.alloc (.cells #[.int .i64 3, .int .i64 0, .string ⟨#[]⟩, .int .i64 0, .int .i64 0, .int .i64 0, .int .i64 0, .slice A b.length c] 47) := ⟨_, rfl⟩
  have a0 : At W w.heap.size #[.int .i64 3, .int .i64 0, .string ⟨#[]⟩, .int .i64 0, .int .i64 0, .int .i64 0, .int .i64 0, .slice A b.length c] 47 := by rw [hW]; exact At.new _ _ _
  have G0 : Bl w W := by rw [hW]; exact (Bl.refl w).alloc _
  have ci := fun (V : World) (g : Bl w V) => int1 _ v V (hv.bl g)
  have ct := fun (V : World) (g : Bl w V) => text1 _ v V (hv.bl g)
  have cr := fun (V : World) (g : Bl w V) => rect1 _ v V (hv.bl g)
  have cb := fun (V : World) (g : Bl w V) => bytes1 _ v V (hv.bl g) hl
  rw [rI_no (by simp [vB])] at ci
  rw [rT_no (by simp [vB])] at ct
  rw [rR_no (by simp [vB])] at cr
  unfold BytesQ at cb
  rw [if_pos (show (vB b).k = 3 from rfl), decT (show (vB b).k = 3 from rfl)] at cb
  dsimp only [vI, vS, vR, vB, List.length_nil] at ci ct cr cb
  replace hu := Lib.hid hu
  replace hl := Lib.hid hl
  replace hv := Lib.hid hv
  replace ci := Lib.hid ci
  replace ct := Lib.hid ct
  replace cr := Lib.hid cr
  replace cb := Lib.hid cb
  obtain ⟨pw, hpw⟩ : ∃ p, p = w.heap.size := ⟨_, rfl⟩
  rw [← hpw] at a0
  replace hpw := Lib.hid hpw
  go_enter Tryd.func21, Tryd.ntmps21
  go_wp2_with fail
  rw [← hW, ← hpw.out]
  clear hW
  refine (ci.out W G0).mono ?_
  rintro e w1 ⟨rfl, g1⟩
  have G1 := G0.gr g1
  have a1 := a0.gr g1
  clear g1 a0
  go_wp2_with fail
  refine (ct.out w1 G1).mono ?_
  rintro e w2 ⟨rfl, g2⟩
  have G2 := G1.gr g2
  have a2 := a1.gr g2
  clear g2 a1
  go_wp2_with fail
  refine (cr.out w2 G2).mono ?_
  rintro e w3 ⟨rfl, g3⟩
  have G3 := (G2.gr g3).alloc (.cells #[.int .i64 0, .int .i64 0, .int .i64 0, .int .i64 0] 45)
  have a3 := (a2.gr g3).alloc (.cells #[.int .i64 0, .int .i64 0, .int .i64 0, .int .i64 0] 45)
  have b3 := At.new w3 #[.int .i64 0, .int .i64 0, .int .i64 0, .int .i64 0] 45
  obtain ⟨p3, hp3⟩ : ∃ p, p = w3.heap.size := ⟨_, rfl⟩
  rw [← hp3] at b3
  obtain ⟨V3, hV3⟩ : ∃ V, V = w3.alloc (.cells #[.int .i64 0, .int .i64 0, .int .i64 0, .int .i64 0] 45) := ⟨_, rfl⟩
  rw [← hV3] at G3 a3 b3
  replace hp3 := Lib.hid hp3
  clear g3 a2
  go_wp2_with fail
  rw [← hV3, ← hp3.out]
  clear hV3
  refine (cb.out V3 G3).mono ?_
  rintro e w4 ⟨A4, c4, rfl, s4, g4⟩
  have G4 := G3.trans g4
  have a4 := a3.bl g4
  have b4 := b3.bl g4
  clear g4 a3 b3 ci ct cr cb
  obtain ⟨q0, q1, q2, q3⟩ := get4 b4
  have u0 : w4.cell? ⟨pw, 0, none⟩ = _ := a4.cell 0
  simp only [List.getElem?_toArray, List.getElem?_cons_zero] at u0
  replace s4 := Lib.hid s4
  have G5 := G4.alloc (.cells #[.int .i64 3, .int .i64 0, .string ⟨#[]⟩, .int .i64 0, .int .i64 0, .int .i64 0, .int .i64 0, .slice A4 b.length c4] 47)
  have a5 := a4.alloc (.cells #[.int .i64 3, .int .i64 0, .string ⟨#[]⟩, .int .i64 0, .int .i64 0, .int .i64 0, .int .i64 0, .slice A4 b.length c4] 47)
  have b5 := At.new w4 #[.int .i64 3, .int .i64 0, .string ⟨#[]⟩, .int .i64 0, .int .i64 0, .int .i64 0, .int .i64 0, .slice A4 b.length c4] 47
  have hu5 := hu.out.bl G5
  have s5 := s4.out.bl ((Bl.refl w4).alloc (.cells #[.int .i64 3, .int .i64 0, .string ⟨#[]⟩, .int .i64 0, .int .i64 0, .int .i64 0, .int .i64 0, .slice A4 b.length c4] 47))
  obtain ⟨x0', x1', x2', x3', x4', x5', x6', x7'⟩ := get8 a5
  obtain ⟨y0', y1', y2', y3', y4', y5', y6', y7'⟩ := get8 b5
  have cs := same2 (vB b) _ _ _ s5 hu5
  dsimp only [vI, vS, vR, vB, g8, List.length_nil] at cs
  replace cs := Lib.hid cs
  clear a4 b4 a5 b5 s5 hu5
  go_wp2_with fail
  refine cs.out.mono ?_
  rintro e w6 ⟨rfl, g6⟩
  go_wp2
  go_ret
  exact ⟨rfl, G5.trans g6⟩

theorem like1 (a : Av) (hc : canon a) (v : Value) (A : Option Addr) (c : Nat) (w : World) (hv : IsA w v a) (hu : Sv w (.slice A a.b.length c) a.b) (hl : a.b.length ≤ 1000000) :
    Calls Tryd.prog 21 #[v, g8 (a, .slice A a.b.length c)] w fun e w' => e = .returned (.bool true) ∧ Bl w w' := by
  rcases hc with ⟨n, rfl⟩ | ⟨s, rfl⟩ | ⟨x0, y0, x1, y1, rfl⟩ | ⟨b, rfl⟩
  · exact likeI n v A c w hv hu hl
  · exact likeS s v A c w hv hu hl
  · exact likeR x0 y0 x1 y1 v A c w hv hu hl
  · exact likeB b v A c w hv hu hl

end Go.Proofs.YtaebbkfbapajkaaDoor
