/-
  What is proved: rows of keys as both packages lay them; what At of either, Same of the document, and 'as' of the statements hand back. Conditions: bounds on lengths.
-/
import Derived.Test.YtgjoipndhlngnaaSka
import Derived.Test.YtgjoipndhlngnaaSkb
import Derived.Laws.StructEq
namespace Go.Proofs.Ytgjoipndhlngnaa
open Go.ChangeShapes Go.WideShapes Go.ChangeAt Go.RowKit Go.Joins Go.Sort Go.Deep

def shK : Shp Ky := ⟨2, fun x => [.int .i64 x.1, .int .i64 x.2], fun _ => rfl, fun x u h => by simp at h; rcases h with h | h <;> (subst h; rfl), by omega⟩
theorem infoK : (Try.prog.info? 27).map (fun i => (i.zero, i.size, i.bytes)) = some (some (.agg #[.int .i64 0, .int .i64 0]), shK.n, 16) := by kernel_rfl
theorem infoP : (Try.prog.info? 26).map (fun i => (i.zero, i.size, i.bytes)) = some (some (.agg #[.int .i64 0, .int .i64 0]), shK.n, 16) := by kernel_rfl
abbrev OwK := shK.Ow 27
abbrev OwP := shK.Ow 26
abbrev kV (k : Ky) : Value := .agg #[.int .i64 k.1, .int .i64 k.2]
abbrev kC (k : Ky) : Array Value := #[.int .i64 k.1, .int .i64 k.2]
theorem k_at {w : World} {b off : Nat} {l : List Ky} (h : shK.Row w b off l) {k : Nat} {x : Ky} (hx : l[k]? = some x) : w.cell? ⟨b, off + k * 2, none⟩ = some (.int .i64 x.1) ∧ w.cell? ⟨b, off + k * 2 + 1, none⟩ = some (.int .i64 x.2) := by
  have h0 := h k x hx 0 (.int .i64 x.1) rfl
  have h1 := h k x hx 1 (.int .i64 x.2) rfl
  exact ⟨by simpa [shK] using h0, by simpa [shK] using h1⟩
theorem eqInK (w : World) (x y : Ky) : (Op.equalIn 10000 27 (kV x) (kV y)).run Try.prog w = .ok (decide (x = y)) w := by
  obtain ⟨a, b⟩ := x
  obtain ⟨c, d⟩ := y
  rw [run_equalIn_struct w 9999 27 _ _ (by kernel_rfl) (by kernel_rfl)]
  have e : ∀ (u v : Int) w, (Op.equalIn 9999 3 (.int .i64 u) (.int .i64 v)).run Try.prog w = .ok (u == v) w := fun u v w => run_equalIn_int (P := Try.prog) w 9998 3 .i64 .i64 u v Try.underlying3
  have hf : (Try.prog.fieldsOf 27).toList.map (fun f => (f.name == "_", f.type, f.offset)) = [(false, 3, 0), (false, 3, 1)] := by kernel_rfl
  generalize (Try.prog.fieldsOf 27).toList = fs at hf
  have hl : fs.length = 2 := by have := congrArg List.length hf; simpa using this
  match fs, hl, hf with
  | [f, g], _, hf =>
    simp only [List.map_cons, List.map_nil, List.cons.injEq, Prod.mk.injEq] at hf
    obtain ⟨⟨f1, f2, f3⟩, ⟨g1, g2, g3⟩, _⟩ := hf
    have h1 : f.name ≠ "_" := by simpa using f1
    have h2 : g.name ≠ "_" := by simpa using g1
    have p0 : ∀ (u v : Int) w, (part 3 #[Value.int .i64 u, .int .i64 v] 0).run Try.prog w = .ok (.int .i64 u) w := fun u v w => by kernel_rfl
    have p1 : ∀ (u v : Int) w, (part 3 #[Value.int .i64 u, .int .i64 v] 1).run Try.prog w = .ok (.int .i64 v) w := fun u v w => by kernel_rfl
    simp only [Op.eqFields, if_pos h1, if_pos h2, f2, f3, g2, g3, Sem.run_bind, p0, e, Result.andThen_ok]
    by_cases hac : a = c
    · subst hac
      by_cases hbd : b = d
      · subst hbd; simp [p1, e]
      · have q2 : (b == d) = false := by simpa using hbd
        simp [p1, e, q2, hbd]
    · have q1 : (a == c) = false := by simpa using hac
      simp [q1, hac]
theorem eqlK (w : World) (x y : Ky) : (binOp .eql 27 (.agg #[.int .i64 x.1, .int .i64 x.2]) (.agg #[.int .i64 y.1, .int .i64 y.2])).run Try.prog w = .ok (.bool (decide (x = y))) w := by
  rw [run_eql_struct, eqInK]; rfl
theorem neqK (w : World) (x y : Ky) : (binOp .neq 27 (.agg #[.int .i64 x.1, .int .i64 x.2]) (.agg #[.int .i64 y.1, .int .i64 y.2])).run Try.prog w = .ok (.bool (!decide (x = y))) w := by
  rw [run_neq_struct, eqInK]; rfl
theorem eqInP (w : World) (x y : Ky) : (Op.equalIn 10000 26 (kV x) (kV y)).run Try.prog w = .ok (decide (x = y)) w := by
  obtain ⟨a, b⟩ := x
  obtain ⟨c, d⟩ := y
  rw [run_equalIn_struct w 9999 26 _ _ (by kernel_rfl) (by kernel_rfl)]
  have e : ∀ (u v : Int) w, (Op.equalIn 9999 3 (.int .i64 u) (.int .i64 v)).run Try.prog w = .ok (u == v) w := fun u v w => run_equalIn_int (P := Try.prog) w 9998 3 .i64 .i64 u v Try.underlying3
  have hf : (Try.prog.fieldsOf 26).toList.map (fun f => (f.name == "_", f.type, f.offset)) = [(false, 3, 0), (false, 3, 1)] := by kernel_rfl
  generalize (Try.prog.fieldsOf 26).toList = fs at hf
  have hl : fs.length = 2 := by have := congrArg List.length hf; simpa using this
  match fs, hl, hf with
  | [f, g], _, hf =>
    simp only [List.map_cons, List.map_nil, List.cons.injEq, Prod.mk.injEq] at hf
    obtain ⟨⟨f1, f2, f3⟩, ⟨g1, g2, g3⟩, _⟩ := hf
    have h1 : f.name ≠ "_" := by simpa using f1
    have h2 : g.name ≠ "_" := by simpa using g1
    have p0 : ∀ (u v : Int) w, (part 3 #[Value.int .i64 u, .int .i64 v] 0).run Try.prog w = .ok (.int .i64 u) w := fun u v w => by kernel_rfl
    have p1 : ∀ (u v : Int) w, (part 3 #[Value.int .i64 u, .int .i64 v] 1).run Try.prog w = .ok (.int .i64 v) w := fun u v w => by kernel_rfl
    simp only [Op.eqFields, if_pos h1, if_pos h2, f2, f3, g2, g3, Sem.run_bind, p0, e, Result.andThen_ok]
    by_cases hac : a = c
    · subst hac
      by_cases hbd : b = d
      · subst hbd; simp [p1, e]
      · have q2 : (b == d) = false := by simpa using hbd
        simp [p1, e, q2, hbd]
    · have q1 : (a == c) = false := by simpa using hac
      simp [q1, hac]
theorem eqlP (w : World) (x y : Ky) : (binOp .eql 26 (.agg #[.int .i64 x.1, .int .i64 x.2]) (.agg #[.int .i64 y.1, .int .i64 y.2])).run Try.prog w = .ok (.bool (decide (x = y))) w := by
  rw [run_eql_struct, eqInP]; rfl
theorem neqP (w : World) (x y : Ky) : (binOp .neq 26 (.agg #[.int .i64 x.1, .int .i64 x.2]) (.agg #[.int .i64 y.1, .int .i64 y.2])).run Try.prog w = .ok (.bool (!decide (x = y))) w := by
  rw [run_neq_struct, eqInP]; rfl
theorem ky_ne {x k : Ky} (h : x ≠ k) : decide (x = k) = false := by simpa using h

section
attribute [local go_sem ↓] eqlK neqK eqlP neqP
set_option maxRecDepth 100000 in
theorem rAt1 {w : World} {A : Option Addr} {c : Nat} {L : List Ky} (h : shK.Rd w A L) (hl : L.length ≤ 1000000) (k : Ky) :
    Calls Try.prog 16 #[.slice A L.length c, kV k] w (Rt w (.int .i64 (atK L k))) := by
  obtain ⟨N, hN⟩ : ∃ N, N = L.length := ⟨_, rfl⟩
  rw [← hN] at hl ⊢
  replace hN := Lib.hid hN
  go_enter Try.func16, Try.ntmps16
  go_wp2
  go_loopw [5] (fun v wr => ∃ j : Nat, j ≤ N ∧ v = .int .i64 j ∧ Gr w wr ∧ At wr w.heap.size (kC k) 27 ∧ Hid (∀ x ∈ L.take j, x ≠ k)) (fun v _ => N - (intOf v).toNat)
  case atStart => exact ⟨0, by omega, rfl, (Gr.refl w).alloc _, At.new _ _ _, Lib.hid (by simp)⟩
  case round =>
    obtain ⟨j, hj, rfl, G, bx, hd⟩ := hrel
    by_cases hlt : j < N
    · obtain ⟨p, hp⟩ := list_at (show j < L.length by have := hN.out; omega)
      obtain ⟨b, off, rfl, hrow⟩ := h.opened (by have := hN.out; omega)
      have e1 := fun n os => (k_at (hrow.bl (((G.drewN n).grow os).bl)) hp).1
      have e2 := fun n os => (k_at (hrow.bl (((G.drewN n).grow os).bl)) hp).2
      have x0 := fun n os => bx.cells n os 0
      have x1 := fun n os => bx.cells n os 1
      by_cases hq : p = k
      · have hf := Lib.hid (at_first (hq ▸ hp) hd.out)
        subst hq
        clear hp hd
        go_wp2
        refine wp_region_quiet_grown (by kernel_rfl) (by kernel_rfl) ?_
        repeat (first | go_big_quiet_step (fail) | quiet_step (fail))
        refine wpQuiet_nil ?_
        intro w9 g9
        replace g9 : Gr _ w9 := g9
        go_wp2
        go_ret
        rw [hf.out]
        exact ⟨rfl, G.trans g9⟩
      · have hd2 := Lib.hid (take_ne hp hq hd.out)
        have hne := ky_ne hq
        clear hp hd hq
        go_wp2
        refine wp_region_quiet_grown (by kernel_rfl) (by kernel_rfl) ?_
        repeat (first | go_big_quiet_step (fail) | quiet_step (fail))
        refine wpQuiet_nil ?_
        intro w9 g9
        replace g9 : Gr _ w9 := g9
        go_wp2
        go_roundw
        case rel => exact ⟨j + 1, by omega, by go_num, G.trans g9, bx.gr g9, hd2⟩
        case measure => simp [intOf]; omega
    · obtain rfl : j = N := by omega
      have hf := hd.out
      rw [hN.out] at hf
      replace hf := Lib.hid (at_none hf)
      go_wp2
      go_ret
      rw [hf.out]
      exact ⟨rfl, G⟩
end

end Go.Proofs.Ytgjoipndhlngnaa
