/-
  What is proved: keys, rows of keys, and of deeds, that came in read as they are. No conditions.
-/
import Derived.Test.YtgjoipndhlngnaaGp
import Derived.Test.YtgjoipndhlngnaaSkq
namespace Go.Proofs.Ytgjoipndhlngnaa
open Go.ChangeShapes Go.WideShapes Go.ChangeAt Go.RowKit Go.Joins Go.Sort Go.Deep

theorem cellsKy : Try.prog.cellsOf 27 = shK.n := by kernel_rfl
theorem cellsDk : Try.prog.cellsOf 34 = shDk.n := by kernel_rfl
theorem cellsIk : Try.prog.cellsOf 3 = 1 := by kernel_rfl
section
variable {H : Type} {enc : TypeId × Value → H} {P : Program} {w : World} {base : Nat} {spare : Nat → Bool} {held : Bool}
theorem fieldK {t : TypeId} {fs : Array Field} {fuel : Nat} {cs : List Value} {x : DataW H × List MemPlace} (ht : P.underlying t = some (.struct fs)) (h : DataW.trod enc P w base spare held fuel t cs = some x) {i : Nat} {f : Field} (hi : fs[i]? = some f) :
    ∃ n y, DataW.trod enc P w base spare held n f.type (List.take (P.cellsOf f.type) (List.drop f.offset cs)) = some y := by
  obtain ⟨xs, n, _, _, _, hl, hf⟩ := DataW.trod_struct ht h
  have := hf i f hi
  have hlt : i < fs.size := (Array.getElem?_eq_some_iff.1 hi).1
  rw [List.getElem?_eq_getElem (by omega)] at this
  exact ⟨n, _, this⟩
theorem intK {t : TypeId} {k : IntKind} {fs : Array Field} {fuel : Nat} {cs : List Value} {x : DataW H × List MemPlace} (ht : P.underlying t = some (.struct fs)) (h : DataW.trod enc P w base spare held fuel t cs = some x) {i : Nat} {f : Field} (hi : fs[i]? = some f) (he : P.underlying f.type = some (.int k))
    {v : Value} (hv : List.take (P.cellsOf f.type) (List.drop f.offset cs) = [v]) : ∃ q : Int, v = .int k q ∧ (Lit.int k q).wf = true := by
  obtain ⟨n, y, hy⟩ := fieldK ht h hi
  rw [hv] at hy
  obtain ⟨q, e0, _, wq⟩ := DataW.trod_int he hy
  simp at e0
  exact ⟨q, e0, wq⟩
end
def I64p (x : Ky) : Prop := I64 x.1 ∧ I64 x.2
section
variable {H : Type} {enc : TypeId × Value → H} {w : World} {base : Nat} {spare : Nat → Bool} {held : Bool}
set_option maxRecDepth 100000 in
theorem ky_cells {n : Nat} {cs : List Value} {x : DataW H × List MemPlace} (h : DataW.trod enc Try.prog w base spare held n 27 cs = some x) : ∃ e : Ky, cs = shK.c e ∧ I64p e := by
  obtain ⟨_, _, _, _, hl, _⟩ := DataW.trod_struct Try.underlying27 h
  rw [cellsKy] at hl
  match cs, hl with
  | [v0, v1], _ =>
    obtain ⟨a, rfl, wa⟩ := intK Try.underlying27 h (i := 0) rfl Try.underlying3 (v := v0) (by simp [cellsIk])
    obtain ⟨b, rfl, wb⟩ := intK Try.underlying27 h (i := 1) rfl Try.underlying3 (v := v1) (by simp [cellsIk])
    exact ⟨(a, b), rfl, I64.of_wf wa, I64.of_wf wb⟩
set_option maxRecDepth 100000 in
theorem dk_cells {n : Nat} {cs : List Value} {x : DataW H × List MemPlace} (h : DataW.trod enc Try.prog w base spare held n 34 cs = some x) : ∃ e : Dk, cs = shDk.c e ∧ I64k e := by
  obtain ⟨_, _, _, _, hl, _⟩ := DataW.trod_struct Try.underlying34 h
  rw [cellsDk] at hl
  match cs, hl with
  | [v0, v1, v2, v3, v4], _ =>
    obtain ⟨k, rfl, wk⟩ := intK Try.underlying34 h (i := 0) rfl Try.underlying3 (v := v0) (by simp [cellsIk])
    obtain ⟨n1, y1, hA⟩ := fieldK Try.underlying34 h (i := 1) rfl
    obtain ⟨n2, y2, hB⟩ := fieldK Try.underlying34 h (i := 2) rfl
    simp [cellsKy, shK] at hA hB
    obtain ⟨⟨a1, a2⟩, e1, wa1, wa2⟩ := ky_cells hA
    obtain ⟨⟨b1, b2⟩, e2, wb1, wb2⟩ := ky_cells hB
    injection e1 with f1 e1
    injection e1 with f2 _
    injection e2 with f3 e2
    injection e2 with f4 _
    subst f1 f2 f3 f4
    exact ⟨⟨k, (a1, a2), (b1, b2)⟩, rfl, I64.of_wf wk, wa1, wa2, wb1, wb2⟩
set_option maxRecDepth 100000 in
theorem open_ks {v : Value} {dd : DataW H} {p : List MemPlace} {b0 : Nat} {r : Reach} (hv : Value.okWide Try.prog w r b0 22 v) (h : DataW.Trod enc Try.prog w base spare held 22 v dd p) :
    ∃ (A : Option Addr) (cap : Nat) (L : List Ky), v = .slice A L.length cap ∧ (A = none → cap = 0) ∧ L.length ≤ cap ∧ cap ≤ maxLen ∧ shK.Rd w A L ∧ ∀ e ∈ L, I64p e :=
  open_rows shK I64p Try.underlying22 cellsKy ky_cells hv h
set_option maxRecDepth 100000 in
theorem open_dks {v : Value} {dd : DataW H} {p : List MemPlace} {b0 : Nat} {r : Reach} (hv : Value.okWide Try.prog w r b0 23 v) (h : DataW.Trod enc Try.prog w base spare held 23 v dd p) :
    ∃ (A : Option Addr) (cap : Nat) (L : List Dk), v = .slice A L.length cap ∧ (A = none → cap = 0) ∧ L.length ≤ cap ∧ cap ≤ maxLen ∧ shDk.Rd w A L ∧ ∀ e ∈ L, I64k e :=
  open_rows shDk I64k Try.underlying23 cellsDk dk_cells hv h
set_option maxRecDepth 100000 in
theorem open_k {v : Value} {dd : DataW H} {p : List MemPlace} {b0 : Nat} {r : Reach} (hv : Value.okWide Try.prog w r b0 27 v) (h : DataW.Trod enc Try.prog w base spare held 27 v dd p) :
    ∃ a b : Int, v = .agg #[.int .i64 a, .int .i64 b] ∧ dd = .agg [.lit (.int .i64 a), .lit (.int .i64 b)] ∧ p = [] ∧ (Lit.int .i64 a).wf = true ∧ (Lit.int .i64 b).wf = true := by
  obtain ⟨a0, a1, y0, y1, m, rfl, rfl, rfl, hy0, hy1⟩ := open_agg2 Try.underlying27 (by kernel_rfl) cellsKy hv h
  obtain ⟨a, e0, rfl, wa⟩ := DataW.trod_int Try.underlying3 hy0
  obtain ⟨b, e1, rfl, wb⟩ := DataW.trod_int Try.underlying3 hy1
  simp at e0 e1
  subst e0 e1
  exact ⟨a, b, rfl, rfl, rfl, wa, wb⟩
set_option maxRecDepth 100000 in
theorem shut_k {a b : Int} (wa : (Lit.int .i64 a).wf = true) (wb : (Lit.int .i64 b).wf = true) :
    DataW.Trod enc Try.prog w base spare held 27 (.agg #[.int .i64 a, .int .i64 b]) (.agg [.lit (.int .i64 a), .lit (.int .i64 b)]) [] :=
  shut_agg2 (y0 := (.lit (.int .i64 a), [])) (y1 := (.lit (.int .i64 b), [])) Try.underlying27 (by kernel_rfl) cellsKy ⟨1, by simp [DataW.trod, Try.underlying3, wa]⟩ ⟨1, by simp [DataW.trod, Try.underlying3, wb]⟩
end

end Go.Proofs.Ytgjoipndhlngnaa
