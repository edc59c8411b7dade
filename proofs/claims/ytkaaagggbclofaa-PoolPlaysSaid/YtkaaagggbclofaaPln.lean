/-
  What is proved: rows of deeds that came in read as lists; what a deed leaves of a pool and of the document's. Conditions: at most 1000 buffers, none held more than 1000 times.
-/
import Derived.Test.YtkaaagggbclofaaPli
import Derived.Test.YtkaaagggbclofaaPlj
import Derived.Test.YtkaaagggbclofaaPlk
import Derived.Test.YtkaaagggbclofaaPll
import Derived.Test.YtkaaagggbclofaaPlm
import Derived.Test.YtkaaagggbclofaaZz8
import Derived.Test.YtkaaagggbclofaaJd
import Derived.Test.YtkaaagggbclofaaZz2
namespace Go.Proofs.Ytkaaagggbclofaa
open Go.ChangeShapes Go.WideShapes Go.ChangeAt Go.RowKit Go.Joins Go.Sort Go.Deep Go.Maps

/-- A deed: its kind, an id, two numbers, a rectangle, bytes and where they lie. -/
structure Pd where
  k : Int
  i : Int
  n : Int
  m : Int
  p : Int
  r : Int
  s : Int
  t : Int
  A : Option Addr
  bs : List Int
  cap : Nat
instance : Inhabited Pd := ⟨⟨0, 0, 0, 0, 0, 0, 0, 0, none, [], 0⟩⟩
def shPd : Shp Pd := ⟨9, fun d => [.int .i64 d.k, .int .i64 d.i, .int .i64 d.n, .int .i64 d.m, .int .i64 d.p, .int .i64 d.r, .int .i64 d.s, .int .i64 d.t, .slice d.A d.bs.length d.cap], fun _ => rfl,
  fun d u h => by simp at h; rcases h with h | h | h | h | h | h | h | h | h <;> (subst h; rfl), by omega⟩
/-- What a deed that came in is good for. -/
structure GoodP (w : World) (d : Pd) : Prop where
  i : I64 d.i
  n : I64 d.n
  m : I64 d.m
  ns : Ns .u8 w d.A d.bs
  u8 : ∀ x ∈ d.bs, U8 x
  lc : d.bs.length ≤ d.cap
  cm : d.cap ≤ maxLen
theorem GoodP.bl {w w' : World} {d : Pd} (h : GoodP w d) (g : Bl w w') : GoodP w' d := { h with ns := h.ns.bl g }
theorem cellsPd : Try.prog.cellsOf 34 = shPd.n := by kernel_rfl
section
variable {H : Type} {enc : TypeId × Value → H} {w : World} {base : Nat} {spare : Nat → Bool} {held : Bool}
set_option maxRecDepth 100000 in
set_option maxHeartbeats 2000000 in
theorem pd_cells {n : Nat} {cs : List Value} {x : DataW H × List MemPlace} (hl : cs.length = 9) (h : DataW.trod enc Try.prog w base spare held n 34 cs = some x) : ∃ d : Pd, cs = shPd.c d ∧ GoodP w d := by
  obtain ⟨v0, v1, v2, v3, v4, v5, v6, v7, v8, rfl⟩ := list9 hl
  obtain ⟨k, rfl, _⟩ := intD Try.underlying34 h (i := 0) rfl Try.underlying3 (v := v0) (by simp [cellsID])
  obtain ⟨a, rfl, wa⟩ := intD Try.underlying34 h (i := 1) rfl Try.underlying3 (v := v1) (by simp [cellsID])
  obtain ⟨b, rfl, wb⟩ := intD Try.underlying34 h (i := 2) rfl Try.underlying3 (v := v2) (by simp [cellsID])
  obtain ⟨q, rfl, wq⟩ := intD Try.underlying34 h (i := 3) rfl Try.underlying3 (v := v3) (by simp [cellsID])
  obtain ⟨n3, y3, hR⟩ := fieldD Try.underlying34 h (i := 4) rfl
  simp [cellsRD] at hR
  obtain ⟨x0, rfl, _⟩ := intD Try.underlying31 hR (i := 0) rfl Try.underlying3 (v := v4) (by simp [cellsID])
  obtain ⟨y0, rfl, _⟩ := intD Try.underlying31 hR (i := 1) rfl Try.underlying3 (v := v5) (by simp [cellsID])
  obtain ⟨x1, rfl, _⟩ := intD Try.underlying31 hR (i := 2) rfl Try.underlying3 (v := v6) (by simp [cellsID])
  obtain ⟨y1, rfl, _⟩ := intD Try.underlying31 hR (i := 3) rfl Try.underlying3 (v := v7) (by simp [cellsID])
  obtain ⟨n4, y4, hB⟩ := fieldD Try.underlying34 h (i := 5) rfl
  simp [cellsBD] at hB
  obtain ⟨A, c, L, rfl, q2, q3, q4, q5⟩ := open_numsD Try.underlying32 Try.underlying5 cellsYD hB
  exact ⟨⟨k, a, b, q, x0, y0, x1, y1, A, L, c⟩, rfl, ⟨I64.of_wf wa, I64.of_wf wb, I64.of_wf wq, q4, fun x hx => U8.of_wf (q5 x hx), q2, q3⟩⟩
set_option maxRecDepth 100000 in
theorem open_pds {v : Value} {dd : DataW H} {p : List MemPlace} {b0 : Nat} {r : Reach} (hv : Value.okWide Try.prog w r b0 22 v) (h : DataW.Trod enc Try.prog w base spare held 22 v dd p) :
    ∃ (A : Option Addr) (cap : Nat) (L : List Pd), v = .slice A L.length cap ∧ (A = none → cap = 0) ∧ L.length ≤ cap ∧ cap ≤ maxLen ∧ shPd.Rd w A L ∧ ∀ e ∈ L, GoodP w e :=
  open_rows shPd (GoodP w) Try.underlying22 cellsPd (fun h => by
    obtain ⟨_, _, _, _, hl, _⟩ := DataW.trod_struct Try.underlying34 h
    exact pd_cells (by rw [hl]; exact cellsPd) h) hv h
end
theorem pd_at {w : World} {b off : Nat} {l : List Pd} (h : shPd.Row w b off l) {k : Nat} {d : Pd} (hx : l[k]? = some d) :
    w.cell? ⟨b, off + k * 9, none⟩ = some (.int .i64 d.k) ∧ w.cell? ⟨b, off + k * 9 + 1, none⟩ = some (.int .i64 d.i) ∧ w.cell? ⟨b, off + k * 9 + 2, none⟩ = some (.int .i64 d.n) ∧ w.cell? ⟨b, off + k * 9 + 3, none⟩ = some (.int .i64 d.m) ∧
    w.cell? ⟨b, off + k * 9 + 4, none⟩ = some (.int .i64 d.p) ∧ w.cell? ⟨b, off + k * 9 + 5, none⟩ = some (.int .i64 d.r) ∧ w.cell? ⟨b, off + k * 9 + 6, none⟩ = some (.int .i64 d.s) ∧ w.cell? ⟨b, off + k * 9 + 7, none⟩ = some (.int .i64 d.t) ∧ w.cell? ⟨b, off + k * 9 + 8, none⟩ = some (.slice d.A d.bs.length d.cap) := by
  have h0 := h k d hx 0 (.int .i64 d.k) rfl
  have h1 := h k d hx 1 (.int .i64 d.i) rfl
  have h2 := h k d hx 2 (.int .i64 d.n) rfl
  have h3 := h k d hx 3 (.int .i64 d.m) rfl
  have h4 := h k d hx 4 (.int .i64 d.p) rfl
  have h5 := h k d hx 5 (.int .i64 d.r) rfl
  have h6 := h k d hx 6 (.int .i64 d.s) rfl
  have h7 := h k d hx 7 (.int .i64 d.t) rfl
  have h8 := h k d hx 8 (.slice d.A d.bs.length d.cap) rfl
  exact ⟨by simpa [shPd] using h0, by simpa [shPd] using h1, by simpa [shPd] using h2, by simpa [shPd] using h3, by simpa [shPd] using h4, by simpa [shPd] using h5, by simpa [shPd] using h6, by simpa [shPd] using h7, by simpa [shPd] using h8⟩

/-- A cell of the document's result is written. -/
theorem PlS.farP {w : World} {pp nb bb : Nat} {Q : List Pq} {S : List Bf} {N M : List Ik} (h : PlS w pp nb bb Q S N M) {b : Nat} {cs : Array Value} (hb : At w b cs 27) (i : Nat) (u : Value) : PlS (w.setCell ⟨b, i, none⟩ u) pp nb bb Q S N M := by
  have g : w.grownBy (w.setCell ⟨b, i, none⟩ u) (some b) := By.set (p := ⟨b, i, none⟩) (By.refl w _) _
  refine { h with hd := h.hd.grown g (fun e => (h.hd.neP hb (by decide)) (Option.some.inj e)), np := h.np.by g (fun e => h.np.ne hb (Option.some.inj e).symm), bp := h.bp.by g (fun e => h.bp.ne hb (Option.some.inj e).symm), bf := fun k s q h1 h2 => ?_ }
  have hc := h.bf k s q h1 h2
  exact ⟨hc.1.grown g (fun e => (hc.1.neP hb (by decide)) (Option.some.inj e)), hc.2.kept g (fun e => (hc.2.hd.neP hb (by decide)) (Option.some.inj e)) (fun e => (hc.2.cs.neP hb (by decide)) (Option.some.inj e))⟩
theorem PlR.farP {w : World} {pp nb bb n : Nat} {Q : List Pq} {S : List Bf} (h : PlR w pp nb bb Q S n) {b : Nat} {cs : Array Value} (hb : At w b cs 27) (i : Nat) (u : Value) : PlR (w.setCell ⟨b, i, none⟩ u) pp nb bb Q S n := by
  obtain ⟨⟨N, M, h1, h2, h3⟩, h4⟩ := h
  exact ⟨⟨N, M, h1.farP hb i u, h2, h3⟩, h4⟩

/-- What a deed leaves. -/
def DoesQ (w : World) (pp nb bb : Nat) (Q : List Pq) (A : Option Addr) (D : List Db) (n : Nat) (e : Ending) (w' : World) : Prop :=
  ∃ S' Q' A' c' D', e = .returned (.tuple #[.agg #[.slice A' (List.length D') c'], .bool true]) ∧ PlR w' pp nb bb Q' S' n ∧ DcR w' A' c' D' S' ∧ DcX (PlX pp nb bb Q') A' D' ∧ Kx (PlX pp nb bb Q) w w' ∧ (∀ k, PlX pp nb bb Q' k → PlX pp nb bb Q k ∨ w.heap.size ≤ k) ∧ ∀ X : Nat → Prop, (∀ k, X k → k < w.heap.size) → DcX X A D → DcX X A' D'
/-- What ends each deed: the document's pool is stored, and handed back. -/
theorem DoesQ.fin {w w4 w5 : World} {pp nb bb n : Nat} {Q Q' : List Pq} {S' : List Bf} {A A' : Option Addr} {c' : Nat} {D D' : List Db} {rb : Nat} {cs : Array Value} (G4 : Bl w w4) (hrb : w.heap.size ≤ rb) (R5 : At w5 rb cs 27) (u : Value)
    (k : Kx (PlX pp nb bb Q) w4 w5) (hP : PlR w5 pp nb bb Q' S' n) (hD : DcR w4 A' c' D' S') (hX : DcX (fun k => PlX pp nb bb Q k ∨ k = rb) A' D') (hQ : ∀ k, PlX pp nb bb Q' k → PlX pp nb bb Q k ∨ w4.heap.size ≤ k) (hXY : ∀ X : Nat → Prop, (∀ k, X k → k < w.heap.size) → DcX X A D → DcX X A' D') :
    DoesQ w pp nb bb Q A D n (.returned (.tuple #[.agg #[.slice A' D'.length c'], .bool true])) (w5.setCell ⟨rb, 0, none⟩ u) := by
  have g : w5.grownBy (w5.setCell ⟨rb, 0, none⟩ u) (some rb) := By.set (p := ⟨rb, 0, none⟩) (By.refl w5 _) _
  have k2 : Kx (fun k => PlX pp nb bb Q k ∨ k = rb) w4 (w5.setCell ⟨rb, 0, none⟩ u) := Kx.trans (X := fun k => PlX pp nb bb Q k ∨ k = rb) ⟨k.os, k.tape, k.output, k.size, fun j hj hx => k.block j hj (fun h => hx (.inl h))⟩ (Kx.by (X := fun k => PlX pp nb bb Q k ∨ k = rb) g (.inr rfl)) (fun _ => .inl)
  refine ⟨S', Q', A', c', D', rfl, hP.farP R5 0 u, hD.kx k2 hX, ?_, ?_, fun k hk => ?_, hXY⟩
  · exact (show DcX (PlX pp nb bb Q) A' D' from ⟨fun a ha h => hX.1 a ha (.inl h), fun d hd h => hX.2 d hd (.inl h)⟩).grow hD hP.ok hQ
  · exact Kx.trans (Kx.bl G4) k2 (fun j hj => by
      rcases hj with h | h
      · exact .inl h
      · subst h; exact .inr hrb)
  · rcases hQ k hk with h | h
    · exact .inl h
    · exact .inr (Nat.le_trans G4.size h)

end Go.Proofs.Ytkaaagggbclofaa
