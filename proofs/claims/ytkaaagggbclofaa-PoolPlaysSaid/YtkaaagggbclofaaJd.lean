/-
  What is proved: a row of deeds that came in reads as a list. No conditions.
-/
import Derived.Test.YtkaaagggbclofaaZz8
namespace Go.Proofs.Ytkaaagggbclofaa
open Go.ChangeShapes Go.WideShapes Go.ChangeAt Go.RowKit Go.Joins Go.Sort Go.Deep

/-- A deed: its kind, a point, a color, a rectangle, bytes and where they lie. -/
structure Dd where
  k : Int
  x : Int
  y : Int
  q : Int
  p : Int
  r : Int
  s : Int
  t : Int
  A : Option Addr
  bs : List Int
  cap : Nat
instance : Inhabited Dd := ⟨⟨0, 0, 0, 0, 0, 0, 0, 0, none, [], 0⟩⟩
def shDd : Shp Dd := ⟨9, fun d => [.int .i64 d.k, .int .i64 d.x, .int .i64 d.y, .int .u32 d.q, .int .i64 d.p, .int .i64 d.r, .int .i64 d.s, .int .i64 d.t, .slice d.A d.bs.length d.cap], fun _ => rfl,
  fun d u h => by simp at h; rcases h with h | h | h | h | h | h | h | h | h <;> (subst h; rfl), by omega⟩
/-- What a deed that came in is good for. -/
structure GoodD (w : World) (d : Dd) : Prop where
  q : C32 d.q
  ns : Ns .u8 w d.A d.bs
  u8 : ∀ x ∈ d.bs, U8 x
  lc : d.bs.length ≤ d.cap
  cm : d.cap ≤ maxLen
theorem C32.of_wf' {n : Int} (h : (Lit.int .u32 n).wf = true) : C32 n := by have := U32.of_wf h; unfold U32 at this; unfold C32; omega
theorem list9 {α : Type} {l : List α} (h : l.length = 9) : ∃ v0 v1 v2 v3 v4 v5 v6 v7 v8 : α, l = [v0, v1, v2, v3, v4, v5, v6, v7, v8] := by
  match l, h with
  | [v0, v1, v2, v3, v4, v5, v6, v7, v8], _ => exact ⟨v0, v1, v2, v3, v4, v5, v6, v7, v8, rfl⟩
section
variable {H : Type} {enc : TypeId × Value → H} {P : Program} {w : World} {base : Nat} {spare : Nat → Bool} {held : Bool}
theorem fieldD {t : TypeId} {fs : Array Field} {fuel : Nat} {cs : List Value} {x : DataW H × List MemPlace} (ht : P.underlying t = some (.struct fs)) (h : DataW.trod enc P w base spare held fuel t cs = some x) {i : Nat} {f : Field} (hi : fs[i]? = some f) :
    ∃ n y, DataW.trod enc P w base spare held n f.type (List.take (P.cellsOf f.type) (List.drop f.offset cs)) = some y := by
  obtain ⟨xs, n, _, _, _, hl, hf⟩ := DataW.trod_struct ht h
  have := hf i f hi
  have hlt : i < fs.size := (Array.getElem?_eq_some_iff.1 hi).1
  rw [List.getElem?_eq_getElem (by omega)] at this
  exact ⟨n, _, this⟩
theorem intD {t : TypeId} {k : IntKind} {fs : Array Field} {fuel : Nat} {cs : List Value} {x : DataW H × List MemPlace} (ht : P.underlying t = some (.struct fs)) (h : DataW.trod enc P w base spare held fuel t cs = some x) {i : Nat} {f : Field} (hi : fs[i]? = some f) (he : P.underlying f.type = some (.int k))
    {v : Value} (hv : List.take (P.cellsOf f.type) (List.drop f.offset cs) = [v]) : ∃ q : Int, v = .int k q ∧ (Lit.int k q).wf = true := by
  obtain ⟨n, y, hy⟩ := fieldD ht h hi
  rw [hv] at hy
  obtain ⟨q, e0, _, wq⟩ := DataW.trod_int he hy
  simp at e0
  exact ⟨q, e0, wq⟩
end
theorem cellsID : Try.prog.cellsOf 3 = 1 := by kernel_rfl
theorem cellsCD : Try.prog.cellsOf 56 = 1 := by kernel_rfl
theorem cellsRD : Try.prog.cellsOf 31 = 4 := by kernel_rfl
theorem cellsBD : Try.prog.cellsOf 32 = 1 := by kernel_rfl
theorem cellsYD : Try.prog.cellsOf 5 = 1 := by kernel_rfl
variable {H : Type} {enc : TypeId × Value → H} {w : World} {base : Nat} {spare : Nat → Bool} {held : Bool}
set_option maxRecDepth 100000 in
theorem open_numsD {k : IntKind} {t e : TypeId} (ht : Try.prog.underlying t = some (.slice e)) (he : Try.prog.underlying e = some (.int k)) (hc1 : Try.prog.cellsOf e = 1) {fuel : Nat} {v : Value} {y : DataW H × List MemPlace} (hf : DataW.trod enc Try.prog w base spare held fuel t [v] = some y) :
    ∃ (A : Option Addr) (cap : Nat) (L : List Int), v = .slice A L.length cap ∧ L.length ≤ cap ∧ cap ≤ maxLen ∧ Ns k w A L ∧ ∀ x ∈ L, (Lit.int k x).wf = true := by
  rcases open_slice ht hf with ⟨hc, _⟩ | ⟨a, len0, cap0, m, n, D, Pl, hc, _, hl, hm, hmm, _, hx⟩
  · simp at hc
    subst hc
    exact ⟨none, 0, [], rfl, Nat.zero_le _, Nat.zero_le _, .inl rfl, by intro r hr; simp at hr⟩
  · simp at hc
    subst hc
    by_cases hz : len0 = 0
    · subst hz; exact ⟨_, _, [], rfl, Nat.zero_le _, hm, .inl rfl, by intro r hr; simp at hr⟩
    · have hlm : len0 ≤ m := by rw [hmm]; split <;> omega
      have each : ∀ i, i < m → ∃ q : Int, w.cell? (a.add i) = some (Value.int k q) ∧ (Lit.int k q).wf = true := by
        intro i hi
        obtain ⟨cs', h1, h2⟩ := hx i hi
        rw [hc1] at h1
        obtain ⟨_, hlen, hcell⟩ := World.cells?_some h1
        obtain ⟨q, e0, _, wq⟩ := DataW.trod_int he h2
        refine ⟨q, ?_, wq⟩
        have := hcell 0 (by omega)
        rw [add_add, e0] at this
        simpa using this
      obtain ⟨f, hfq⟩ := choose_lt each
      have h0 := (hfq 0 (by omega)).1
      obtain ⟨b, off, spot⟩ := a
      cases spot with
      | some t =>
        simp [Addr.add, World.cell?] at h0
        exfalso
        split at h0 <;> cases h0
      | none =>
        have ad : ∀ i, (⟨b, off, none⟩ : Addr).add i = ⟨b, off + i, none⟩ := fun i => by unfold Addr.add; split <;> simp_all
        refine ⟨some ⟨b, off, none⟩, cap0, (List.range len0).map f, by simp, by simpa using hl, hm, .inr ⟨b, off, rfl, fun k r hk => ?_⟩, fun r hr => ?_⟩
        · have hkl : k < ((List.range len0).map f).length := by
            rcases Nat.lt_or_ge k ((List.range len0).map f).length with h' | h'
            · exact h'
            · rw [List.getElem?_eq_none h'] at hk; cases hk
          simp at hkl
          simp [hkl] at hk
          subst hk
          have hk' := (hfq k (by omega)).1
          rwa [ad] at hk'
        · rw [List.mem_map] at hr
          obtain ⟨k, hk, rfl⟩ := hr
          rw [List.mem_range] at hk
          exact (hfq k (by omega)).2

theorem dd_at {w : World} {b off : Nat} {l : List Dd} (h : shDd.Row w b off l) {k : Nat} {d : Dd} (hx : l[k]? = some d) :
    w.cell? ⟨b, off + k * 9, none⟩ = some (.int .i64 d.k) ∧ w.cell? ⟨b, off + k * 9 + 1, none⟩ = some (.int .i64 d.x) ∧ w.cell? ⟨b, off + k * 9 + 2, none⟩ = some (.int .i64 d.y) ∧ w.cell? ⟨b, off + k * 9 + 3, none⟩ = some (.int .u32 d.q) ∧
    w.cell? ⟨b, off + k * 9 + 4, none⟩ = some (.int .i64 d.p) ∧ w.cell? ⟨b, off + k * 9 + 5, none⟩ = some (.int .i64 d.r) ∧ w.cell? ⟨b, off + k * 9 + 6, none⟩ = some (.int .i64 d.s) ∧ w.cell? ⟨b, off + k * 9 + 7, none⟩ = some (.int .i64 d.t) ∧ w.cell? ⟨b, off + k * 9 + 8, none⟩ = some (.slice d.A d.bs.length d.cap) := by
  have h0 := h k d hx 0 (.int .i64 d.k) rfl
  have h1 := h k d hx 1 (.int .i64 d.x) rfl
  have h2 := h k d hx 2 (.int .i64 d.y) rfl
  have h3 := h k d hx 3 (.int .u32 d.q) rfl
  have h4 := h k d hx 4 (.int .i64 d.p) rfl
  have h5 := h k d hx 5 (.int .i64 d.r) rfl
  have h6 := h k d hx 6 (.int .i64 d.s) rfl
  have h7 := h k d hx 7 (.int .i64 d.t) rfl
  have h8 := h k d hx 8 (.slice d.A d.bs.length d.cap) rfl
  exact ⟨by simpa [shDd] using h0, by simpa [shDd] using h1, by simpa [shDd] using h2, by simpa [shDd] using h3, by simpa [shDd] using h4, by simpa [shDd] using h5, by simpa [shDd] using h6, by simpa [shDd] using h7, by simpa [shDd] using h8⟩

end Go.Proofs.Ytkaaagggbclofaa
