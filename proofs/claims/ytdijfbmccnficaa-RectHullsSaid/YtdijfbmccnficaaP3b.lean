/-
  What is proved: the statement RectHulls: the least rectangle round others is the document's, and covers each. No conditions.
-/
import Derived.Test.YtdijfbmccnficaaH5
import Derived.Test.YtdijfbmccnficaaM6
import Derived.Carry
namespace Go.Proofs.Ytdijfbmccnficaa
open Go.ChangeShapes Go.WideShapes Go.ChangeAt Go.RowKit Go.Joins Go.Sort Go.Deep

instance : Inhabited Rc := ⟨⟨0, 0, 0, 0⟩⟩
theorem cellsInt : Try.prog.cellsOf 3 = 1 := by kernel_rfl
theorem laidOut : laidOutB Try.prog = true := by kernel_rfl

section
variable {H : Type} {enc : TypeId × Value → H} {w : World} {base : Nat} {spare : Nat → Bool} {held : Bool}
/-- A rectangle's cells, as they read. -/
theorem rect_cells {n : Nat} {cs : List Value} {x : DataW H × List MemPlace} (h : DataW.trod enc Try.prog w base spare held n 23 cs = some x) :
    ∃ r : Rc, cs = [.int .i64 r.a, .int .i64 r.b, .int .i64 r.c, .int .i64 r.d] ∧ I64 r.a ∧ I64 r.b ∧ I64 r.c ∧ I64 r.d := by
  obtain ⟨y0, y1, y2, y3, m, _, hl, h0, h1, h2, h3⟩ := trod_struct4 Try.underlying23 h
  rw [cellsRect] at hl
  match cs, hl with
  | [v0, v1, v2, v3], _ =>
    obtain ⟨a, e0, _, wa⟩ := DataW.trod_int Try.underlying3 h0
    obtain ⟨b, e1, _, wb⟩ := DataW.trod_int Try.underlying3 h1
    obtain ⟨c, e2, _, wc⟩ := DataW.trod_int Try.underlying3 h2
    obtain ⟨d, e3, _, wd⟩ := DataW.trod_int Try.underlying3 h3
    simp [cellsInt] at e0 e1 e2 e3
    subst e0 e1 e2 e3
    exact ⟨⟨a, b, c, d⟩, rfl, I64.of_wf wa, I64.of_wf wb, I64.of_wf wc, I64.of_wf wd⟩

/-- The argument: a row of rectangles that came in. -/
theorem open_rects {v : Value} {dd : DataW H} {p : List MemPlace} {b0 : Nat} {r : Reach} (hv : Value.okWide Try.prog w r b0 28 v) (h : DataW.Trod enc Try.prog w base spare held 28 v dd p) :
    (∃ A cap, v = .slice A 0 cap ∧ cap ≤ maxLen) ∨ ∃ (b off n cap : Nat) (f : Nat → Rc), v = .slice (some ⟨b, off, none⟩) n cap ∧ 0 < n ∧ n ≤ cap ∧ cap ≤ maxLen ∧ Row w b off n f ∧ ∀ k, k < n → I64 (f k).a ∧ I64 (f k).b ∧ I64 (f k).c ∧ I64 (f k).d := by
  obtain ⟨a0, len0, cap0, rfl⟩ := okWide_slice Try.underlying28 hv
  obtain ⟨fuel, hf⟩ := h
  rcases open_slice Try.underlying28 hf with ⟨hc, _⟩ | ⟨a, len, cap, m, n, D, Pl, hc, _, hl, hm, hmm, _, hx⟩
  · simp [Value.cells] at hc
    obtain ⟨rfl, rfl, rfl⟩ := hc
    exact .inl ⟨none, 0, rfl, Nat.zero_le _⟩
  · simp [Value.cells] at hc
    obtain ⟨rfl, rfl, rfl⟩ := hc
    by_cases hz : len0 = 0
    · subst hz; exact .inl ⟨_, _, rfl, hm⟩
    · right
      have hlm : len0 ≤ m := by rw [hmm]; split <;> omega
      have each : ∀ i, i < m → ∃ q : Rc, (∀ j, j < 4 → w.cell? (a.add (i * 4 + j)) = [Value.int .i64 q.a, .int .i64 q.b, .int .i64 q.c, .int .i64 q.d][j]?) ∧ I64 q.a ∧ I64 q.b ∧ I64 q.c ∧ I64 q.d := by
        intro i hi
        obtain ⟨cs', h1, h2⟩ := hx i hi
        rw [cellsRect] at h1
        obtain ⟨_, hlen, hcell⟩ := World.cells?_some h1
        obtain ⟨q, rfl, hq⟩ := rect_cells h2
        refine ⟨q, fun j hj => ?_, hq⟩
        rw [← add_add]
        exact hcell j hj
      obtain ⟨f, hfq⟩ := choose_lt each
      have h0 := (hfq 0 (by omega)).1 0 (by omega)
      obtain ⟨b, off, spot⟩ := a
      cases spot with
      | some t =>
        simp [Addr.add, World.cell?] at h0
        exfalso
        split at h0 <;> cases h0
      | none =>
        have ad : ∀ i, (⟨b, off, none⟩ : Addr).add i = ⟨b, off + i, none⟩ := fun i => by unfold Addr.add; split <;> simp_all
        refine ⟨b, off, len0, cap0, f, rfl, by omega, hl, hm, fun k hk => ?_, fun k hk => (hfq k (by omega)).2⟩
        have hk' := (hfq k (by omega)).1
        simp only [ad] at hk'
        exact ⟨hk' 0 (by omega), hk' 1 (by omega), hk' 2 (by omega), hk' 3 (by omega)⟩
end

theorem hulls1 (v : Value) (w : World) (h : (∃ A cap, v = .slice A 0 cap ∧ cap ≤ maxLen) ∨ ∃ (b off n cap : Nat) (f : Nat → Rc), v = .slice (some ⟨b, off, none⟩) n cap ∧ 0 < n ∧ n ≤ cap ∧ cap ≤ maxLen ∧ Row w b off n f ∧ ∀ k, k < n → I64 (f k).a ∧ I64 (f k).b ∧ I64 (f k).c ∧ I64 (f k).d) :
    Calls Try.prog 5 #[v] w fun e w' => e = .returned (.bool true) ∧ Below w.heap.size w w' := by
  rcases h with ⟨A, cap, rfl, _⟩ | ⟨b, off, n, cap, f, rfl, hn, hnc, hc, hr, hI⟩
  · exact hulls_zero A cap w
  · unfold maxLen at hc
    exact hulls_core b off n cap f (fun k => smallR (f k).a (f k).b (f k).c (f k).d) w hn (by omega) hnc hr (fun k hk w => by
      obtain ⟨i1, i2, i3, i4⟩ := hI k hk
      exact small1 _ _ _ _ w i1 i2 i3 i4)

set_option maxRecDepth 100000 in
theorem rectHulls_lifted (os : Os) (started : os.Started) (H : Type) (enc : TypeId × Value → H) :
    ReturnsInHanded {} Try.checked os 5 .any (Rows.rectHullsSpec.pre6 enc Try.prog Try.f5 Rows.rectHullsRow.domain false) (Rows.rectHullsSpec.post enc Try.prog Try.f5 false true false false) := by
  refine returnsInHanded_of_change (C := Try.checked) own started (by kernel_rfl) Try.func5
    (ChangeSpec.witness6 (enc := enc) (C := Try.checked) false ⟨#[], #[.slice none 0 0], []⟩ 8 (by kernel_rfl) (by kernel_rfl) (by kernel_rfl) (by kernel_rfl)) ?_
  intro W base args ds gs before hval0 hW hcnd _
  have hval : ∀ (j : Nat) t v, Try.f5.params[j]? = some t → args[j]? = some v → Value.okWide Try.prog W .any base t v := hval0
  have hW' := hW
  obtain ⟨p, q, hA0, hV, rfl, hfz, hnd⟩ := hW
  have hA : DataW.TrodAll enc Try.prog W 0 (fun _ => true) true Try.f5.params.toList args.toList ds p := hA0
  rw [Try.params5] at hA hval
  obtain ⟨v0, vs0, d0, ds0, p0, q0, hargs, rfl, rfl, h0, r0⟩ := trodAll_cons hA
  obtain ⟨rfl, rfl, rfl⟩ := trodAll_nil r0
  obtain rfl : args = #[v0] := by cases args; simp_all
  obtain ⟨rfl, rfl⟩ := trodVars_none hV
  have hin := open_rects (hval 0 28 v0 rfl rfl) h0
  clear hA0 hval0
  simp only [List.append_nil] at hW'
  have hlt : ∀ x ∈ p0, x.block < W.heap.size := fun x hx => by simpa using hW'.lt x hx
  refine (hulls1 v0 W hin).mono fun e W' ⟨he, hb⟩ => ?_
  subst he
  exact ⟨_, rfl, close_below (pa := p0) (pv := []) hW' (fun _ _ _ => (trodAll_cons_mk (shut_bool Try.underlying4 _) trodAll_mk0))
    (fun sp hsp => by
      have := trodAll_cons_mk (WideElems.Trod_stays laidOut (by kernel_rfl) (of_decide_eq_true (by kernel_rfl)) h0 (fun x hx => hb.same (hlt x hx)) (sp' := sp) (fun x hx => hsp x hx)) trodAll_mk0
      simp only [List.append_nil] at this
      exact this)
    (fun _ _ => rfl) (by simp) hb (ok_one (by kernel_rfl) rfl (okWide_bool_mk Try.underlying4 _))⟩

theorem rectHulls_holds : Rows.RectHullsSaid :=
  OpenClaim.holds_of_wide 5 Try.f5 rfl rfl rfl rfl rfl rfl rfl ⟨rfl, rfl, rfl, rfl, rfl⟩ rfl rfl rfl rfl rfl (by kernel_rfl) Try.func5 (by kernel_rfl)
    (of_decide_eq_true (by kernel_rfl)) (by unfold Func.isWrapper; first | (rw [if_pos (by decide +kernel)]; kernel_rfl) | (rw [if_neg (by decide +kernel)]; exact ⟨rfl, rfl⟩))
    (fun os started H enc _ => rectHulls_lifted os started H enc)

#print axioms rectHulls_holds
end Go.Proofs.Ytdijfbmccnficaa
