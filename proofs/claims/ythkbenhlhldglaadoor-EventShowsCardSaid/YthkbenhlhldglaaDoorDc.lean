/-
  What is proved: rows of events, of either package; how an event, and a row of them, that came in are opened. No conditions but bounds.
-/
import Derived.Test.YthkbenhlhldglaaDoorDa
import Derived.Test.YthkbenhlhldglaaDoorMc
import Derived.Test.YthkbenhlhldglaaDoorMf
import Derived.ChangeMaps5
namespace Go.Proofs.YthkbenhlhldglaaDoor
open Go.ChangeShapes Go.WideShapes Go.ChangeAt Go.RowKit Go.Joins Go.Sort Go.Deep

instance : Inhabited Ev := ⟨zE⟩
def c4e (e : Ev) : List Value := [.int .i64 e.k, .int .i64 e.id, .int .i64 e.a, .int .i64 e.b]
def vE (e : Ev) : Value := .agg #[.int .i64 e.k, .int .i64 e.id, .int .i64 e.a, .int .i64 e.b]
def cEv : List Ev → List Value
  | [] => []
  | r :: l => c4e r ++ cEv l
theorem c4e_len (e : Ev) : (c4e e).length = 4 := rfl
theorem cEv_len : ∀ L : List Ev, (cEv L).length = L.length * 4
  | [] => rfl
  | r :: l => by unfold cEv; rw [List.length_append, cEv_len l, c4e_len, List.length_cons]; omega
theorem cEv_app : ∀ L M : List Ev, cEv (L ++ M) = cEv L ++ cEv M
  | [], M => rfl
  | r :: l, M => by show c4e r ++ cEv (l ++ M) = (c4e r ++ cEv l) ++ cEv M; rw [cEv_app l M, List.append_assoc]
theorem cEv_get : ∀ (L : List Ev) (k : Nat) (r : Ev) (j : Nat), L[k]? = some r → j < 4 → (cEv L)[k * 4 + j]? = (c4e r)[j]?
  | [], k, r, j, h, _ => by simp at h
  | r' :: l, 0, r, j, h, hj => by
    simp at h; subst h
    unfold cEv
    rw [List.getElem?_append_left (by rw [c4e_len]; omega)]; simp
  | r' :: l, k + 1, r, j, h, hj => by
    unfold cEv
    rw [List.getElem?_append_right (by rw [c4e_len]; omega)]
    rw [show (k + 1) * 4 + j - (c4e r').length = k * 4 + j from by rw [c4e_len]; omega]
    exact cEv_get l k r j (by simpa using h) hj
theorem c4e_one (e : Ev) : ∀ u ∈ c4e e, u.oneCell' = true := by
  intro u hu
  simp [c4e] at hu
  rcases hu with rfl | rfl | rfl | rfl <;> rfl
theorem cEv_one : ∀ (L : List Ev), ∀ u ∈ cEv L, u.oneCell' = true
  | [], u, h => by simp [cEv] at h
  | r :: l, u, h => by
    unfold cEv at h
    rcases List.mem_append.1 h with h | h
    · exact c4e_one r u h
    · exact cEv_one l u h
/-- A row of events: what lies in its cells. -/
def RowEv (w : World) (b off : Nat) (L : List Ev) : Prop := ∀ k r, L[k]? = some r → ∀ j u, (c4e r)[j]? = some u → w.cell? ⟨b, off + k * 4 + j, none⟩ = some u
def Es (w : World) (A : Option Addr) (L : List Ev) : Prop := L = [] ∨ ∃ b off, A = some ⟨b, off, none⟩ ∧ RowEv w b off L
theorem RowEv.bl {w w' : World} {b off : Nat} {L : List Ev} (h : RowEv w b off L) (g : Bl w w') : RowEv w' b off L := fun k r hk j u hj => g.keep (h k r hk j u hj)
theorem Es.bl {w w' : World} {A : Option Addr} {L : List Ev} (h : Es w A L) (g : Bl w w') : Es w' A L := by
  rcases h with h | ⟨b, off, h1, h2⟩
  · exact .inl h
  · exact .inr ⟨b, off, h1, h2.bl g⟩
/-- One cell's facts, all four. -/
structure CellsE (w : World) (b o : Nat) (e : Ev) : Prop where
  h0 : w.cell? ⟨b, o, none⟩ = some (.int .i64 e.k)
  h1 : w.cell? ⟨b, o + 1, none⟩ = some (.int .i64 e.id)
  h2 : w.cell? ⟨b, o + 2, none⟩ = some (.int .i64 e.a)
  h3 : w.cell? ⟨b, o + 3, none⟩ = some (.int .i64 e.b)
theorem CellsE.bl {w w' : World} {b o : Nat} {e : Ev} (h : CellsE w b o e) (g : Bl w w') : CellsE w' b o e := ⟨g.keep h.h0, g.keep h.h1, g.keep h.h2, g.keep h.h3⟩
theorem Es.at {w : World} {A : Option Addr} {L : List Ev} (h : Es w A L) {k : Nat} (hk : k < L.length) : ∃ b off e, A = some ⟨b, off, none⟩ ∧ L[k]? = some e ∧ CellsE w b (off + k * 4) e := by
  obtain ⟨e, he⟩ := list_at hk
  rcases h with h' | ⟨b, off, rfl, hr⟩
  · subst h'; simp at hk
  · have q := hr k e he
    exact ⟨b, off, e, rfl, he, ⟨q 0 _ rfl, q 1 _ rfl, q 2 _ rfl, q 3 _ rfl⟩⟩
theorem Es.opened {w : World} {A : Option Addr} {L : List Ev} (h : Es w A L) (hn : 0 < L.length) : ∃ b off, A = some ⟨b, off, none⟩ ∧ RowEv w b off L := by
  rcases h with h | h
  · subst h; simp at hn
  · exact h
theorem RowEv.cells {w : World} {b off : Nat} {L : List Ev} (h : RowEv w b off L) {k : Nat} {e : Ev} (he : L[k]? = some e) : CellsE w b (off + k * 4) e := by
  have q := h k e he
  exact ⟨q 0 _ rfl, q 1 _ rfl, q 2 _ rfl, q 3 _ rfl⟩
theorem RowEv.drop {w : World} {b off : Nat} {L : List Ev} (h : RowEv w b off L) (n : Nat) : RowEv w b (off + n * 4) (L.drop n) := fun k r hk j u hj => by
  rw [List.getElem?_drop] at hk
  have := h _ _ hk j u hj
  rw [show off + n * 4 + k * 4 + j = off + (n + k) * 4 + j by omega]; exact this
theorem RowEv.take {w : World} {b off : Nat} {L : List Ev} (h : RowEv w b off L) (n : Nat) : RowEv w b off (L.take n) := fun k r hk j u hj => by
  rw [List.getElem?_take] at hk
  split at hk
  · exact h k r hk j u hj
  · cases hk
theorem Es.take {w : World} {A : Option Addr} {L : List Ev} (h : Es w A L) (n : Nat) : Es w A (L.take n) := by
  rcases h with rfl | ⟨b, off, rfl, hr⟩
  · exact .inl (by simp)
  · exact .inr ⟨b, off, rfl, hr.take n⟩
/-- A row of events that a call owns, of either type. -/
def OwEv (t : TypeId) (w : World) (B : Nat) (A : Option Addr) (c : Nat) (L : List Ev) : Prop := w.ownsRow B t 4 (.slice A L.length c) L.length (cEv L)
theorem OwEv.nil (t : TypeId) (w : World) (B : Nat) : OwEv t w B none 0 [] := World.ownsRow_nil _ _ _ _
theorem OwEv.by {t : TypeId} {w w' : World} {B : Nat} {A : Option Addr} {c : Nat} {L : List Ev} {row : Option Nat} (h : OwEv t w B A c L) (g : w.grownBy w' row) (hne : A = none ∨ A.map (·.block) ≠ row) : OwEv t w' B A c L :=
  World.ownsRow.kept h g (by rw [slice_block]; rcases hne with rfl | hne; exact .inl rfl; exact .inr hne)
theorem OwEv.bl {t : TypeId} {w w' : World} {B : Nat} {A : Option Addr} {c : Nat} {L : List Ev} (h : OwEv t w B A c L) (g : Bl w w') : OwEv t w' B A c L :=
  h.by (g.byr none) (by cases A with | none => exact .inl rfl | some a => exact .inr (by simp))
theorem OwEv.es {t : TypeId} {w : World} {B : Nat} {A : Option Addr} {c : Nat} {L : List Ev} (h : OwEv t w B A c L) : Es w A L := by
  rcases own_addr h with ⟨_, _, h1⟩ | ⟨g, rfl, _⟩
  · exact .inl (List.eq_nil_of_length_eq_zero h1)
  · refine .inr ⟨g, 0, rfl, fun k r hk j u hj => ?_⟩
    have hl : k < L.length := by
      rcases Nat.lt_or_ge k L.length with h' | h'
      · exact h'
      · rw [List.getElem?_eq_none h'] at hk; cases hk
    have hj4 : j < 4 := by
      rcases Nat.lt_or_ge j 4 with h' | h'
      · exact h'
      · rw [List.getElem?_eq_none (by rw [c4e_len]; exact h')] at hj; cases hj
    have q := (World.ownsRow.cellAt h (k * 4 + j) (by omega)).trans (cEv_get L k r j hk hj4)
    rw [hj] at q
    rw [Nat.zero_add]; exact q
theorem infoEv : (Tryd.prog.info? 65).map (fun i => (i.zero, i.size, i.bytes)) = some (some (.agg #[.int .i64 0, .int .i64 0, .int .i64 0, .int .i64 0]), 4, 32) := by kernel_rfl
theorem infoRe : (Tryd.prog.info? 62).map (fun i => (i.zero, i.size, i.bytes)) = some (some (.agg #[.int .i64 0, .int .i64 0, .int .i64 0, .int .i64 0]), 4, 32) := by kernel_rfl
theorem cellsEv : Tryd.prog.cellsOf 65 = 4 := by kernel_rfl
theorem cellsRe : Tryd.prog.cellsOf 62 = 4 := by kernel_rfl
theorem News.ev {w : World} {g : Nat} {e : Ev} {t : TypeId} (h : At w g #[.int .i64 e.k, .int .i64 e.id, .int .i64 e.a, .int .i64 e.b] t) : News w (some ⟨g, 0, none⟩) 1 (c4e e) := News.at 1 h
/-- An event is added to a row that the call owns. -/
theorem wp_app_ev {ops : Array Oper} {rest : List Oper} {o : Oper} {a : Act} {w : World} {Q : Exit → Act → World → Prop} (hgd : o.guard = none) (s x : Operand)
    (ho : o.op = .call { callee := .builtin .append, args := #[s, x], argTypes := #[66, 66] }) (A : Option Addr) (c : Nat) (L : List Ev) (hs : a.eval s = .slice A L.length c) (B : Nat) (hown : OwEv 65 w B A c L)
    (g : Nat) (e : Ev) (hx : a.eval x = .slice (some ⟨g, 0, none⟩) 1 1) (hN : At w g #[.int .i64 e.k, .int .i64 e.id, .int .i64 e.a, .int .i64 e.b] 65) (hlen : L.length + 1 ≤ 1000000000) (hB : B ≤ w.heap.size)
    (h : ∀ A' c' w', OwEv 65 w' B A' c' (L ++ [e]) → w.grownBy w' (A.map (·.block)) → wpList Tryd.prog ops Q rest (a.put o.dst (.slice A' (L.length + 1) c')) w') :
    wpList Tryd.prog ops Q (o :: rest) a w :=
  wp_app_gen (t := 66) Tryd.underlying66 infoEv rfl (by omega) (by omega) hgd s x ho A L.length c (cEv L) hs B hown (some ⟨g, 0, none⟩) 1 1 (c4e e) hx (by simp) rfl (News.ev hN) (c4e_one e) hlen hB
    fun A' c' w' q1 q2 _ => h A' c' w' (by unfold OwEv; rw [cEv_app, List.length_append]; show w'.ownsRow B _ 4 _ _ (cEv L ++ (c4e e ++ [])); rw [List.append_nil]; exact q1) q2
theorem wp_app_re {ops : Array Oper} {rest : List Oper} {o : Oper} {a : Act} {w : World} {Q : Exit → Act → World → Prop} (hgd : o.guard = none) (s x : Operand)
    (ho : o.op = .call { callee := .builtin .append, args := #[s, x], argTypes := #[60, 60] }) (A : Option Addr) (c : Nat) (L : List Ev) (hs : a.eval s = .slice A L.length c) (B : Nat) (hown : OwEv 62 w B A c L)
    (g : Nat) (e : Ev) (hx : a.eval x = .slice (some ⟨g, 0, none⟩) 1 1) (hN : At w g #[.int .i64 e.k, .int .i64 e.id, .int .i64 e.a, .int .i64 e.b] 62) (hlen : L.length + 1 ≤ 1000000000) (hB : B ≤ w.heap.size)
    (h : ∀ A' c' w', OwEv 62 w' B A' c' (L ++ [e]) → w.grownBy w' (A.map (·.block)) → wpList Tryd.prog ops Q rest (a.put o.dst (.slice A' (L.length + 1) c')) w') :
    wpList Tryd.prog ops Q (o :: rest) a w :=
  wp_app_gen (t := 60) Tryd.underlying60 infoRe rfl (by omega) (by omega) hgd s x ho A L.length c (cEv L) hs B hown (some ⟨g, 0, none⟩) 1 1 (c4e e) hx (by simp) rfl (News.ev hN) (c4e_one e) hlen hB
    fun A' c' w' q1 q2 _ => h A' c' w' (by unfold OwEv; rw [cEv_app, List.length_append]; show w'.ownsRow B _ 4 _ _ (cEv L ++ (c4e e ++ [])); rw [List.append_nil]; exact q1) q2

/-- What an event that came in is good for. -/
structure I64e (e : Ev) : Prop where
  k : I64 e.k
  id : I64 e.id
  a : I64 e.a
  b : I64 e.b
section
variable {H : Type} {enc : TypeId × Value → H} {w : World} {base : Nat} {spare : Nat → Bool} {held : Bool}
set_option maxRecDepth 100000 in
theorem ev_cells {n : Nat} {cs : List Value} {x : DataW H × List MemPlace} (h : DataW.trod enc Tryd.prog w base spare held n 62 cs = some x) : ∃ e : Ev, cs = c4e e ∧ I64e e := by
  obtain ⟨y0, y1, y2, y3, m, _, hl, h0, h1, h2, h3⟩ := trod_struct4 Tryd.underlying62 h
  rw [cellsRe] at hl
  match cs, hl with
  | [v0, v1, v2, v3], _ =>
    obtain ⟨a, e0, _, wa⟩ := DataW.trod_int Tryd.underlying3 h0
    obtain ⟨b, e1, _, wb⟩ := DataW.trod_int Tryd.underlying3 h1
    obtain ⟨c, e2, _, wc⟩ := DataW.trod_int Tryd.underlying3 h2
    obtain ⟨d, e3, _, wd⟩ := DataW.trod_int Tryd.underlying3 h3
    simp [cellsInt] at e0 e1 e2 e3
    subst e0 e1 e2 e3
    exact ⟨⟨a, b, c, d⟩, rfl, I64.of_wf wa, I64.of_wf wb, I64.of_wf wc, I64.of_wf wd⟩
set_option maxRecDepth 100000 in
/-- An event that came in. -/
theorem open_ev {v : Value} {dd : DataW H} {p : List MemPlace} {b0 : Nat} {r : Reach} (hv : Value.okWide Tryd.prog w r b0 62 v) (h : DataW.Trod enc Tryd.prog w base spare held 62 v dd p) :
    ∃ e : Ev, v = vE e ∧ I64e e := by
  obtain ⟨cs, rfl, hsz⟩ := okWide_struct Tryd.underlying62 hv
  obtain ⟨fuel, hf⟩ := h
  obtain ⟨l⟩ := cs
  simp only [Value.cells] at hf
  obtain ⟨e, rfl, q⟩ := ev_cells hf
  exact ⟨e, rfl, q⟩
set_option maxRecDepth 100000 in
/-- A row of events that came in. -/
theorem open_evs {v : Value} {dd : DataW H} {p : List MemPlace} {b0 : Nat} {r : Reach} (hv : Value.okWide Tryd.prog w r b0 60 v) (h : DataW.Trod enc Tryd.prog w base spare held 60 v dd p) :
    ∃ (A : Option Addr) (cap : Nat) (L : List Ev), v = .slice A L.length cap ∧ (A = none → cap = 0) ∧ L.length ≤ cap ∧ cap ≤ maxLen ∧ Es w A L ∧ ∀ e ∈ L, I64e e := by
  obtain ⟨a0, len0, cap0, rfl⟩ := okWide_slice Tryd.underlying60 hv
  obtain ⟨fuel, hf⟩ := h
  rcases open_slice Tryd.underlying60 hf with ⟨hc, _⟩ | ⟨a, len, cap, m, n, D, Pl, hc, _, hl, hm, hmm, _, hx⟩
  · simp [Value.cells] at hc
    obtain ⟨rfl, rfl, rfl⟩ := hc
    exact ⟨none, 0, [], rfl, fun _ => rfl, Nat.zero_le _, Nat.zero_le _, .inl rfl, by intro r hr; simp at hr⟩
  · simp [Value.cells] at hc
    obtain ⟨rfl, rfl, rfl⟩ := hc
    by_cases hz : len0 = 0
    · subst hz; exact ⟨_, _, [], rfl, by simp, Nat.zero_le _, hm, .inl rfl, by intro r hr; simp at hr⟩
    · have hlm : len0 ≤ m := by rw [hmm]; split <;> omega
      have each : ∀ i, i < m → ∃ q : Ev, (∀ j, j < 4 → w.cell? (a.add (i * 4 + j)) = (c4e q)[j]?) ∧ I64e q := by
        intro i hi
        obtain ⟨cs', h1, h2⟩ := hx i hi
        rw [cellsRe] at h1
        obtain ⟨_, hlen, hcell⟩ := World.cells?_some h1
        obtain ⟨q, rfl, hq⟩ := ev_cells h2
        refine ⟨q, fun j hj => ?_, hq⟩
        rw [← add_add]
        exact hcell j hj
      obtain ⟨f, hfq⟩ := choose_lt each
      have h0 := (hfq 0 (by omega)).1 0 (by omega)
      obtain ⟨b, off, spot⟩ := a
      cases spot with
      | some t =>
        simp [Addr.add, World.cell?, c4e] at h0
        exfalso
        split at h0 <;> cases h0
      | none =>
        have get : ∀ k p, ((List.range len0).map f)[k]? = some p → k < m ∧ p = f k := by
          intro k p hk
          have hkl : k < ((List.range len0).map f).length := by
            rcases Nat.lt_or_ge k ((List.range len0).map f).length with h' | h'
            · exact h'
            · rw [List.getElem?_eq_none h'] at hk; cases hk
          simp at hkl
          simp [hkl] at hk
          exact ⟨by omega, hk.symm⟩
        refine ⟨some ⟨b, off, none⟩, cap0, (List.range len0).map f, by simp, by simp, by simpa using hl, hm, .inr ⟨b, off, rfl, fun k p hk j u hj => ?_⟩, fun p hp => ?_⟩
        · obtain ⟨hkm, rfl⟩ := get k p hk
          have hj4 : j < 4 := by
            rcases Nat.lt_or_ge j 4 with h' | h'
            · exact h'
            · rw [List.getElem?_eq_none (by rw [c4e_len]; exact h')] at hj; cases hj
          have q := (hfq k hkm).1 j hj4
          rw [add_lit', hj] at q
          rw [Nat.add_assoc]; exact q
        · obtain ⟨k, hk⟩ := List.getElem?_of_mem hp
          obtain ⟨hkm, rfl⟩ := get k p hk
          exact (hfq k hkm).2
end

end Go.Proofs.YthkbenhlhldglaaDoor
