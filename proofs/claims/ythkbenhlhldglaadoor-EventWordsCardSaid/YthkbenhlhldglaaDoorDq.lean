/-
  What is proved: the statement EventWords walked: two events that may be have the same text just if they are the same, for any two. Conditions: numbers are ints; the tables read as their initialisers lay them.
-/
import Derived.Test.YthkbenhlhldglaaDoorDo
import Derived.Test.YthkbenhlhldglaaDoorDl
import Derived.Test.YthkbenhlhldglaaDoorDm
namespace Go.Proofs.YthkbenhlhldglaaDoor
open Go.RowKit Go.Sort

theorem toL_neE {s t : ByteArray} (h : ¬ s = t) : (s.toList == t.toList) = false := by
  rw [beq_eq_false_iff_ne]
  intro e
  rw [ByteArray.toList_eq, ByteArray.toList_eq] at e
  exact h (by cases s; cases t; simpa using e)
theorem shS_inj {x y : Ev} (hx : okE x) (hy : okE y) (h : shS x = shS y) : x = y := by
  refine showE_inj hx hy ?_
  have := congrArg (fun s : ByteArray => s.data.toList) h
  simpa [shS] using this
theorem goodE_i64 (e : Ev) : I64e (goodE e) := by
  have h := goodE_ok e
  obtain ⟨⟨h1, h2⟩, h⟩ := h
  unfold argE at h
  refine ⟨⟨?_, ?_⟩, ⟨?_, ?_⟩, ⟨?_, ?_⟩, ⟨?_, ?_⟩⟩ <;> omega
theorem Es.two {w : World} {g : Nat} {e f : Ev} {t : TypeId} (h : At w g #[.int .i64 e.k, .int .i64 e.id, .int .i64 e.a, .int .i64 e.b, .int .i64 f.k, .int .i64 f.id, .int .i64 f.a, .int .i64 f.b] t) : Es w (some ⟨g, 0, none⟩) [e, f] := by
  refine .inr ⟨g, 0, rfl, fun k r hk j u hj => ?_⟩
  have hj4 : j < 4 := by
    rcases Nat.lt_or_ge j 4 with h' | h'
    · exact h'
    · rw [List.getElem?_eq_none (by rw [c4e_len]; exact h')] at hj; cases hj
  have hj5 : j = 0 ∨ j = 1 ∨ j = 2 ∨ j = 3 := by omega
  match k, hk with
  | 0, hk =>
    simp at hk
    subst hk
    simp only [Nat.zero_add, Nat.zero_mul]
    rw [h.cell j, ← hj]
    rcases hj5 with rfl | rfl | rfl | rfl <;> rfl
  | 1, hk =>
    simp at hk
    subst hk
    simp only [Nat.zero_add, Nat.one_mul]
    rw [h.cell (4 + j), ← hj]
    rcases hj5 with rfl | rfl | rfl | rfl <;> rfl
  | k + 2, hk => simp at hk
set_option maxRecDepth 100000 in
set_option maxHeartbeats 8000000 in
theorem words_walk (ak aid aa ab bk bid ba bb xk xid xa xb yk yid ya yb : Int) (T1 T2 : ByteArray) (w : World)
    (cgA : ∀ V, Bl w V → Calls Tryd.prog 27 #[.agg #[.int .i64 ak, .int .i64 aid, .int .i64 aa, .int .i64 ab]] V (fun e w' => e = .returned (.agg #[.int .i64 xk, .int .i64 xid, .int .i64 xa, .int .i64 xb]) ∧ Bl V w'))
    (cgB : ∀ V, Bl w V → Calls Tryd.prog 27 #[.agg #[.int .i64 bk, .int .i64 bid, .int .i64 ba, .int .i64 bb]] V (fun e w' => e = .returned (.agg #[.int .i64 yk, .int .i64 yid, .int .i64 ya, .int .i64 yb]) ∧ Bl V w'))
    (cs1 : ∀ V, Bl w V → Calls Tryd.prog 38 #[.agg #[.int .i64 xk, .int .i64 xid, .int .i64 xa, .int .i64 xb]] V (fun e w' => e = .returned (.string T1) ∧ Bl V w'))
    (cs2 : ∀ V, Bl w V → Calls Tryd.prog 38 #[.agg #[.int .i64 yk, .int .i64 yid, .int .i64 ya, .int .i64 yb]] V (fun e w' => e = .returned (.string T2) ∧ Bl V w'))
    (cl : ∀ V, Bl w V → Calls Tryd.prog 36 #[] V (fun e w' => e = .returned (.bool true) ∧ Bl V w'))
    (hT : (⟨xk, xid, xa, xb⟩ : Ev) = ⟨yk, yid, ya, yb⟩ → T1 = T2) (hN : ¬ (⟨xk, xid, xa, xb⟩ : Ev) = ⟨yk, yid, ya, yb⟩ → (T1.toList == T2.toList) = false) :
    Calls Tryd.prog 11 #[.agg #[.int .i64 ak, .int .i64 aid, .int .i64 aa, .int .i64 ab], .agg #[.int .i64 bk, .int .i64 bid, .int .i64 ba, .int .i64 bb]] w (fun e w' => e = .returned (.bool true) ∧ Bl w w') := by
  have P0 := At.newAt (w := w.alloc (.cells #[.int .i64 ak, .int .i64 aid, .int .i64 aa, .int .i64 ab] 62)) (n := w.heap.size + 1) (by simp) #[.int .i64 bk, .int .i64 bid, .int .i64 ba, .int .i64 bb] 62
  have G0 : Bl w ((w.alloc (.cells #[.int .i64 ak, .int .i64 aid, .int .i64 aa, .int .i64 ab] 62)).alloc (.cells #[.int .i64 bk, .int .i64 bid, .int .i64 ba, .int .i64 bb] 62)) := ((Bl.refl w).alloc _).alloc _
  go_enter Tryd.func11, Tryd.ntmps11
  go_wp2_with fail
  refine (cgA _ G0).mono ?_
  rintro e w1 ⟨rfl, g1⟩
  have P1 := (P0.bl g1).alloc (.cells #[.int .i64 xk, .int .i64 xid, .int .i64 xa, .int .i64 xb] 62)
  have X1 := At.new w1 #[.int .i64 xk, .int .i64 xid, .int .i64 xa, .int .i64 xb] 62
  have G1 := (G0.trans g1).alloc (.cells #[.int .i64 xk, .int .i64 xid, .int .i64 xa, .int .i64 xb] 62)
  obtain ⟨k0, k1, k2, k3⟩ := cells4E P1
  clear P0 G0 g1 cgA
  go_wp2_with fail
  refine (cgB _ G1).mono ?_
  rintro e w2 ⟨rfl, g2⟩
  have X2 := (X1.bl g2).alloc (.cells #[.int .i64 yk, .int .i64 yid, .int .i64 ya, .int .i64 yb] 62)
  have Y2 := At.new w2 #[.int .i64 yk, .int .i64 yid, .int .i64 ya, .int .i64 yb] 62
  have G2 := (G1.trans g2).alloc (.cells #[.int .i64 yk, .int .i64 yid, .int .i64 ya, .int .i64 yb] 62)
  clear k0 k1 k2 k3 P1 X1 G1 g2 cgB
  obtain ⟨k0, k1, k2, k3⟩ := cells4E X2
  obtain ⟨j0, j1, j2, j3⟩ := cells4E Y2
  have Z3 := At.newAt (w := w2.alloc (.cells #[.int .i64 yk, .int .i64 yid, .int .i64 ya, .int .i64 yb] 62)) (n := w2.heap.size + 1) (by simp) #[.int .i64 xk, .int .i64 xid, .int .i64 xa, .int .i64 xb, .int .i64 yk, .int .i64 yid, .int .i64 ya, .int .i64 yb] 62
  have G3 := G2.alloc (.cells #[.int .i64 xk, .int .i64 xid, .int .i64 xa, .int .i64 xb, .int .i64 yk, .int .i64 yid, .int .i64 ya, .int .i64 yb] 62)
  have X3 := X2.alloc (.cells #[.int .i64 xk, .int .i64 xid, .int .i64 xa, .int .i64 xb, .int .i64 yk, .int .i64 yid, .int .i64 ya, .int .i64 yb] 62)
  have Y3 := Y2.alloc (.cells #[.int .i64 xk, .int .i64 xid, .int .i64 xa, .int .i64 xb, .int .i64 yk, .int .i64 yid, .int .i64 ya, .int .i64 yb] 62)
  have co := ofE1 (some ⟨w2.heap.size + 1, 0, none⟩) 2 [⟨xk, xid, xa, xb⟩, ⟨yk, yid, ya, yb⟩] _ (Es.two Z3) (by simp)
  go_wp2_with fail
  refine co.mono ?_
  rintro e w5 ⟨A5, c5, rfl, ow5, g5⟩
  have G5 := G3.trans g5
  have X5 := X3.bl g5
  have Y5 := Y3.bl g5
  clear k0 k1 k2 k3 j0 j1 j2 j3 X2 Y2 X3 Y3 Z3 G3 co g5 G2
  obtain ⟨b, off, rfl, hr⟩ := ow5.es.opened (by simp)
  have r0 := hr.cells (k := 0) (e := ⟨xk, xid, xa, xb⟩) rfl
  have r1 := hr.cells (k := 1) (e := ⟨yk, yid, ya, yb⟩) rfl
  simp only [Nat.zero_mul, Nat.add_zero, Nat.one_mul] at r0 r1
  clear ow5 hr
  go_wp2
  generalize w1.heap.size = px at *
  generalize w2.heap.size = py at *
  have SK : ∀ V, Bl w5 V → V.cell? ⟨px, 0, none⟩ = some (.int .i64 xk) ∧ V.cell? ⟨px, 1, none⟩ = some (.int .i64 xid) ∧ V.cell? ⟨px, 2, none⟩ = some (.int .i64 xa) ∧ V.cell? ⟨px, 3, none⟩ = some (.int .i64 xb) ∧ V.cell? ⟨py, 0, none⟩ = some (.int .i64 yk) ∧ V.cell? ⟨py, 1, none⟩ = some (.int .i64 yid) ∧ V.cell? ⟨py, 2, none⟩ = some (.int .i64 ya) ∧ V.cell? ⟨py, 3, none⟩ = some (.int .i64 yb) ∧ V.cell? ⟨b, off, none⟩ = some (.int .i64 xk) ∧ V.cell? ⟨b, off + 1, none⟩ = some (.int .i64 xid) ∧ V.cell? ⟨b, off + 2, none⟩ = some (.int .i64 xa) ∧ V.cell? ⟨b, off + 3, none⟩ = some (.int .i64 xb) ∧ V.cell? ⟨b, off + 4, none⟩ = some (.int .i64 yk) ∧ V.cell? ⟨b, off + 4 + 1, none⟩ = some (.int .i64 yid) ∧ V.cell? ⟨b, off + 4 + 2, none⟩ = some (.int .i64 ya) ∧ V.cell? ⟨b, off + 4 + 3, none⟩ = some (.int .i64 yb) ∧ Bl w5 V := fun V g => ⟨(X5.bl g).cell 0, (X5.bl g).cell 1, (X5.bl g).cell 2, (X5.bl g).cell 3, (Y5.bl g).cell 0, (Y5.bl g).cell 1, (Y5.bl g).cell 2, (Y5.bl g).cell 3, (r0.bl g).h0, (r0.bl g).h1, (r0.bl g).h2, (r0.bl g).h3, (r1.bl g).h0, (r1.bl g).h1, (r1.bl g).h2, (r1.bl g).h3, g⟩
  replace SK := Lib.hid SK
  replace cs1 := Lib.hid fun V (g : Bl w5 V) => cs1 V (G5.trans g)
  replace cs2 := Lib.hid fun V (g : Bl w5 V) => cs2 V (G5.trans g)
  replace cl := Lib.hid fun V (g : Bl w5 V) => cl V (G5.trans g)
  clear X5 Y5 r0 r1
  by_cases h0 : xk = yk
  case neg =>
    have hT2 := hN (fun h => h0 (by injection h))
    have hne : (xk == yk) = false := by simpa using h0
    clear hT hN
    go_region_held3 (fun V => V.cell? ⟨px, 0, none⟩ = some (.int .i64 xk) ∧ V.cell? ⟨px, 1, none⟩ = some (.int .i64 xid) ∧ V.cell? ⟨px, 2, none⟩ = some (.int .i64 xa) ∧ V.cell? ⟨px, 3, none⟩ = some (.int .i64 xb) ∧ V.cell? ⟨py, 0, none⟩ = some (.int .i64 yk) ∧ V.cell? ⟨py, 1, none⟩ = some (.int .i64 yid) ∧ V.cell? ⟨py, 2, none⟩ = some (.int .i64 ya) ∧ V.cell? ⟨py, 3, none⟩ = some (.int .i64 yb) ∧ V.cell? ⟨b, off, none⟩ = some (.int .i64 xk) ∧ V.cell? ⟨b, off + 1, none⟩ = some (.int .i64 xid) ∧ V.cell? ⟨b, off + 2, none⟩ = some (.int .i64 xa) ∧ V.cell? ⟨b, off + 3, none⟩ = some (.int .i64 xb) ∧ V.cell? ⟨b, off + 4, none⟩ = some (.int .i64 yk) ∧ V.cell? ⟨b, off + 4 + 1, none⟩ = some (.int .i64 yid) ∧ V.cell? ⟨b, off + 4 + 2, none⟩ = some (.int .i64 ya) ∧ V.cell? ⟨b, off + 4 + 3, none⟩ = some (.int .i64 yb) ∧ Bl w5 V) ((refine SK.out _ ?_; repeat (first | with_reducible assumption | with_reducible exact Bl.refl _ | with_reducible exact (And.right (And.right (And.right (And.right (And.right (And.right (And.right (And.right (And.right (And.right (And.right (And.right (And.right (And.right (And.right (And.right (by assumption))))))))))))))))) | with_reducible apply Bl.drew))) ((first | (go_at_call_of 38 (Value.agg #[.int .i64 xk, .int .i64 xid, .int .i64 xa, .int .i64 xb]); (refine (cs1.out _ (And.right (And.right (And.right (And.right (And.right (And.right (And.right (And.right (And.right (And.right (And.right (And.right (And.right (And.right (And.right (And.right (by assumption)))))))))))))))))).mono ?_); rintro e V1 ⟨rfl, gg⟩; have G1 : Bl w5 V1 := Bl.trans (And.right (And.right (And.right (And.right (And.right (And.right (And.right (And.right (And.right (And.right (And.right (And.right (And.right (And.right (And.right (And.right (by assumption))))))))))))))))) gg) | (go_at_call_of 38 (Value.agg #[.int .i64 yk, .int .i64 yid, .int .i64 ya, .int .i64 yb]); (refine (cs2.out _ (And.right (And.right (And.right (And.right (And.right (And.right (And.right (And.right (And.right (And.right (And.right (And.right (And.right (And.right (And.right (And.right (by assumption)))))))))))))))))).mono ?_); rintro e V2 ⟨rfl, gg⟩; have G2 : Bl w5 V2 := Bl.trans (And.right (And.right (And.right (And.right (And.right (And.right (And.right (And.right (And.right (And.right (And.right (And.right (And.right (And.right (And.right (And.right (by assumption))))))))))))))))) gg) | (go_at_call 36; (refine (cl.out _ (And.right (And.right (And.right (And.right (And.right (And.right (And.right (And.right (And.right (And.right (And.right (And.right (And.right (And.right (And.right (And.right (by assumption)))))))))))))))))).mono ?_); rintro e V3 ⟨rfl, gg⟩; have G3 : Bl w5 V3 := Bl.trans (And.right (And.right (And.right (And.right (And.right (And.right (And.right (And.right (And.right (And.right (And.right (And.right (And.right (And.right (And.right (And.right (by assumption))))))))))))))))) gg)))
    all_goals
      go_wp2
      go_ret
      exact ⟨rfl, G5.trans (by assumption)⟩
  subst h0
  by_cases h1 : xid = yid
  case neg =>
    have hT2 := hN (fun h => h1 (by injection h))
    have hne : (xid == yid) = false := by simpa using h1
    clear hT hN
    go_region_held3 (fun V => V.cell? ⟨px, 0, none⟩ = some (.int .i64 xk) ∧ V.cell? ⟨px, 1, none⟩ = some (.int .i64 xid) ∧ V.cell? ⟨px, 2, none⟩ = some (.int .i64 xa) ∧ V.cell? ⟨px, 3, none⟩ = some (.int .i64 xb) ∧ V.cell? ⟨py, 0, none⟩ = some (.int .i64 xk) ∧ V.cell? ⟨py, 1, none⟩ = some (.int .i64 yid) ∧ V.cell? ⟨py, 2, none⟩ = some (.int .i64 ya) ∧ V.cell? ⟨py, 3, none⟩ = some (.int .i64 yb) ∧ V.cell? ⟨b, off, none⟩ = some (.int .i64 xk) ∧ V.cell? ⟨b, off + 1, none⟩ = some (.int .i64 xid) ∧ V.cell? ⟨b, off + 2, none⟩ = some (.int .i64 xa) ∧ V.cell? ⟨b, off + 3, none⟩ = some (.int .i64 xb) ∧ V.cell? ⟨b, off + 4, none⟩ = some (.int .i64 xk) ∧ V.cell? ⟨b, off + 4 + 1, none⟩ = some (.int .i64 yid) ∧ V.cell? ⟨b, off + 4 + 2, none⟩ = some (.int .i64 ya) ∧ V.cell? ⟨b, off + 4 + 3, none⟩ = some (.int .i64 yb) ∧ Bl w5 V) ((refine SK.out _ ?_; repeat (first | with_reducible assumption | with_reducible exact Bl.refl _ | with_reducible exact (And.right (And.right (And.right (And.right (And.right (And.right (And.right (And.right (And.right (And.right (And.right (And.right (And.right (And.right (And.right (And.right (by assumption))))))))))))))))) | with_reducible apply Bl.drew))) ((first | (go_at_call_of 38 (Value.agg #[.int .i64 xk, .int .i64 xid, .int .i64 xa, .int .i64 xb]); (refine (cs1.out _ (And.right (And.right (And.right (And.right (And.right (And.right (And.right (And.right (And.right (And.right (And.right (And.right (And.right (And.right (And.right (And.right (by assumption)))))))))))))))))).mono ?_); rintro e V1 ⟨rfl, gg⟩; have G1 : Bl w5 V1 := Bl.trans (And.right (And.right (And.right (And.right (And.right (And.right (And.right (And.right (And.right (And.right (And.right (And.right (And.right (And.right (And.right (And.right (by assumption))))))))))))))))) gg) | (go_at_call_of 38 (Value.agg #[.int .i64 xk, .int .i64 yid, .int .i64 ya, .int .i64 yb]); (refine (cs2.out _ (And.right (And.right (And.right (And.right (And.right (And.right (And.right (And.right (And.right (And.right (And.right (And.right (And.right (And.right (And.right (And.right (by assumption)))))))))))))))))).mono ?_); rintro e V2 ⟨rfl, gg⟩; have G2 : Bl w5 V2 := Bl.trans (And.right (And.right (And.right (And.right (And.right (And.right (And.right (And.right (And.right (And.right (And.right (And.right (And.right (And.right (And.right (And.right (by assumption))))))))))))))))) gg) | (go_at_call 36; (refine (cl.out _ (And.right (And.right (And.right (And.right (And.right (And.right (And.right (And.right (And.right (And.right (And.right (And.right (And.right (And.right (And.right (And.right (by assumption)))))))))))))))))).mono ?_); rintro e V3 ⟨rfl, gg⟩; have G3 : Bl w5 V3 := Bl.trans (And.right (And.right (And.right (And.right (And.right (And.right (And.right (And.right (And.right (And.right (And.right (And.right (And.right (And.right (And.right (And.right (by assumption))))))))))))))))) gg)))
    all_goals
      go_wp2
      go_ret
      exact ⟨rfl, G5.trans (by assumption)⟩
  subst h1
  by_cases h2 : xa = ya
  case neg =>
    have hT2 := hN (fun h => h2 (by injection h))
    have hne : (xa == ya) = false := by simpa using h2
    clear hT hN
    go_region_held3 (fun V => V.cell? ⟨px, 0, none⟩ = some (.int .i64 xk) ∧ V.cell? ⟨px, 1, none⟩ = some (.int .i64 xid) ∧ V.cell? ⟨px, 2, none⟩ = some (.int .i64 xa) ∧ V.cell? ⟨px, 3, none⟩ = some (.int .i64 xb) ∧ V.cell? ⟨py, 0, none⟩ = some (.int .i64 xk) ∧ V.cell? ⟨py, 1, none⟩ = some (.int .i64 xid) ∧ V.cell? ⟨py, 2, none⟩ = some (.int .i64 ya) ∧ V.cell? ⟨py, 3, none⟩ = some (.int .i64 yb) ∧ V.cell? ⟨b, off, none⟩ = some (.int .i64 xk) ∧ V.cell? ⟨b, off + 1, none⟩ = some (.int .i64 xid) ∧ V.cell? ⟨b, off + 2, none⟩ = some (.int .i64 xa) ∧ V.cell? ⟨b, off + 3, none⟩ = some (.int .i64 xb) ∧ V.cell? ⟨b, off + 4, none⟩ = some (.int .i64 xk) ∧ V.cell? ⟨b, off + 4 + 1, none⟩ = some (.int .i64 xid) ∧ V.cell? ⟨b, off + 4 + 2, none⟩ = some (.int .i64 ya) ∧ V.cell? ⟨b, off + 4 + 3, none⟩ = some (.int .i64 yb) ∧ Bl w5 V) ((refine SK.out _ ?_; repeat (first | with_reducible assumption | with_reducible exact Bl.refl _ | with_reducible exact (And.right (And.right (And.right (And.right (And.right (And.right (And.right (And.right (And.right (And.right (And.right (And.right (And.right (And.right (And.right (And.right (by assumption))))))))))))))))) | with_reducible apply Bl.drew))) ((first | (go_at_call_of 38 (Value.agg #[.int .i64 xk, .int .i64 xid, .int .i64 xa, .int .i64 xb]); (refine (cs1.out _ (And.right (And.right (And.right (And.right (And.right (And.right (And.right (And.right (And.right (And.right (And.right (And.right (And.right (And.right (And.right (And.right (by assumption)))))))))))))))))).mono ?_); rintro e V1 ⟨rfl, gg⟩; have G1 : Bl w5 V1 := Bl.trans (And.right (And.right (And.right (And.right (And.right (And.right (And.right (And.right (And.right (And.right (And.right (And.right (And.right (And.right (And.right (And.right (by assumption))))))))))))))))) gg) | (go_at_call_of 38 (Value.agg #[.int .i64 xk, .int .i64 xid, .int .i64 ya, .int .i64 yb]); (refine (cs2.out _ (And.right (And.right (And.right (And.right (And.right (And.right (And.right (And.right (And.right (And.right (And.right (And.right (And.right (And.right (And.right (And.right (by assumption)))))))))))))))))).mono ?_); rintro e V2 ⟨rfl, gg⟩; have G2 : Bl w5 V2 := Bl.trans (And.right (And.right (And.right (And.right (And.right (And.right (And.right (And.right (And.right (And.right (And.right (And.right (And.right (And.right (And.right (And.right (by assumption))))))))))))))))) gg) | (go_at_call 36; (refine (cl.out _ (And.right (And.right (And.right (And.right (And.right (And.right (And.right (And.right (And.right (And.right (And.right (And.right (And.right (And.right (And.right (And.right (by assumption)))))))))))))))))).mono ?_); rintro e V3 ⟨rfl, gg⟩; have G3 : Bl w5 V3 := Bl.trans (And.right (And.right (And.right (And.right (And.right (And.right (And.right (And.right (And.right (And.right (And.right (And.right (And.right (And.right (And.right (And.right (by assumption))))))))))))))))) gg)))
    all_goals
      go_wp2
      go_ret
      exact ⟨rfl, G5.trans (by assumption)⟩
  subst h2
  by_cases h3 : xb = yb
  case neg =>
    have hT2 := hN (fun h => h3 (by injection h))
    have hne : (xb == yb) = false := by simpa using h3
    clear hT hN
    go_region_held3 (fun V => V.cell? ⟨px, 0, none⟩ = some (.int .i64 xk) ∧ V.cell? ⟨px, 1, none⟩ = some (.int .i64 xid) ∧ V.cell? ⟨px, 2, none⟩ = some (.int .i64 xa) ∧ V.cell? ⟨px, 3, none⟩ = some (.int .i64 xb) ∧ V.cell? ⟨py, 0, none⟩ = some (.int .i64 xk) ∧ V.cell? ⟨py, 1, none⟩ = some (.int .i64 xid) ∧ V.cell? ⟨py, 2, none⟩ = some (.int .i64 xa) ∧ V.cell? ⟨py, 3, none⟩ = some (.int .i64 yb) ∧ V.cell? ⟨b, off, none⟩ = some (.int .i64 xk) ∧ V.cell? ⟨b, off + 1, none⟩ = some (.int .i64 xid) ∧ V.cell? ⟨b, off + 2, none⟩ = some (.int .i64 xa) ∧ V.cell? ⟨b, off + 3, none⟩ = some (.int .i64 xb) ∧ V.cell? ⟨b, off + 4, none⟩ = some (.int .i64 xk) ∧ V.cell? ⟨b, off + 4 + 1, none⟩ = some (.int .i64 xid) ∧ V.cell? ⟨b, off + 4 + 2, none⟩ = some (.int .i64 xa) ∧ V.cell? ⟨b, off + 4 + 3, none⟩ = some (.int .i64 yb) ∧ Bl w5 V) ((refine SK.out _ ?_; repeat (first | with_reducible assumption | with_reducible exact Bl.refl _ | with_reducible exact (And.right (And.right (And.right (And.right (And.right (And.right (And.right (And.right (And.right (And.right (And.right (And.right (And.right (And.right (And.right (And.right (by assumption))))))))))))))))) | with_reducible apply Bl.drew))) ((first | (go_at_call_of 38 (Value.agg #[.int .i64 xk, .int .i64 xid, .int .i64 xa, .int .i64 xb]); (refine (cs1.out _ (And.right (And.right (And.right (And.right (And.right (And.right (And.right (And.right (And.right (And.right (And.right (And.right (And.right (And.right (And.right (And.right (by assumption)))))))))))))))))).mono ?_); rintro e V1 ⟨rfl, gg⟩; have G1 : Bl w5 V1 := Bl.trans (And.right (And.right (And.right (And.right (And.right (And.right (And.right (And.right (And.right (And.right (And.right (And.right (And.right (And.right (And.right (And.right (by assumption))))))))))))))))) gg) | (go_at_call_of 38 (Value.agg #[.int .i64 xk, .int .i64 xid, .int .i64 xa, .int .i64 yb]); (refine (cs2.out _ (And.right (And.right (And.right (And.right (And.right (And.right (And.right (And.right (And.right (And.right (And.right (And.right (And.right (And.right (And.right (And.right (by assumption)))))))))))))))))).mono ?_); rintro e V2 ⟨rfl, gg⟩; have G2 : Bl w5 V2 := Bl.trans (And.right (And.right (And.right (And.right (And.right (And.right (And.right (And.right (And.right (And.right (And.right (And.right (And.right (And.right (And.right (And.right (by assumption))))))))))))))))) gg) | (go_at_call 36; (refine (cl.out _ (And.right (And.right (And.right (And.right (And.right (And.right (And.right (And.right (And.right (And.right (And.right (And.right (And.right (And.right (And.right (And.right (by assumption)))))))))))))))))).mono ?_); rintro e V3 ⟨rfl, gg⟩; have G3 : Bl w5 V3 := Bl.trans (And.right (And.right (And.right (And.right (And.right (And.right (And.right (And.right (And.right (And.right (And.right (And.right (And.right (And.right (And.right (And.right (by assumption))))))))))))))))) gg)))
    all_goals
      go_wp2
      go_ret
      exact ⟨rfl, G5.trans (by assumption)⟩
  subst h3
  have hT2 := hT rfl
  subst hT2
  clear hT hN
  go_region_held3 (fun V => V.cell? ⟨px, 0, none⟩ = some (.int .i64 xk) ∧ V.cell? ⟨px, 1, none⟩ = some (.int .i64 xid) ∧ V.cell? ⟨px, 2, none⟩ = some (.int .i64 xa) ∧ V.cell? ⟨px, 3, none⟩ = some (.int .i64 xb) ∧ V.cell? ⟨py, 0, none⟩ = some (.int .i64 xk) ∧ V.cell? ⟨py, 1, none⟩ = some (.int .i64 xid) ∧ V.cell? ⟨py, 2, none⟩ = some (.int .i64 xa) ∧ V.cell? ⟨py, 3, none⟩ = some (.int .i64 xb) ∧ V.cell? ⟨b, off, none⟩ = some (.int .i64 xk) ∧ V.cell? ⟨b, off + 1, none⟩ = some (.int .i64 xid) ∧ V.cell? ⟨b, off + 2, none⟩ = some (.int .i64 xa) ∧ V.cell? ⟨b, off + 3, none⟩ = some (.int .i64 xb) ∧ V.cell? ⟨b, off + 4, none⟩ = some (.int .i64 xk) ∧ V.cell? ⟨b, off + 4 + 1, none⟩ = some (.int .i64 xid) ∧ V.cell? ⟨b, off + 4 + 2, none⟩ = some (.int .i64 xa) ∧ V.cell? ⟨b, off + 4 + 3, none⟩ = some (.int .i64 xb) ∧ Bl w5 V) ((refine SK.out _ ?_; repeat (first | with_reducible assumption | with_reducible exact Bl.refl _ | with_reducible exact (And.right (And.right (And.right (And.right (And.right (And.right (And.right (And.right (And.right (And.right (And.right (And.right (And.right (And.right (And.right (And.right (by assumption))))))))))))))))) | with_reducible apply Bl.drew))) ((first | (go_at_call_of 38 (Value.agg #[.int .i64 xk, .int .i64 xid, .int .i64 xa, .int .i64 xb]); (refine (cs1.out _ (And.right (And.right (And.right (And.right (And.right (And.right (And.right (And.right (And.right (And.right (And.right (And.right (And.right (And.right (And.right (And.right (by assumption)))))))))))))))))).mono ?_); rintro e V1 ⟨rfl, gg⟩; have G1 : Bl w5 V1 := Bl.trans (And.right (And.right (And.right (And.right (And.right (And.right (And.right (And.right (And.right (And.right (And.right (And.right (And.right (And.right (And.right (And.right (by assumption))))))))))))))))) gg) | (go_at_call_of 38 (Value.agg #[.int .i64 xk, .int .i64 xid, .int .i64 xa, .int .i64 xb]); (refine (cs2.out _ (And.right (And.right (And.right (And.right (And.right (And.right (And.right (And.right (And.right (And.right (And.right (And.right (And.right (And.right (And.right (And.right (by assumption)))))))))))))))))).mono ?_); rintro e V2 ⟨rfl, gg⟩; have G2 : Bl w5 V2 := Bl.trans (And.right (And.right (And.right (And.right (And.right (And.right (And.right (And.right (And.right (And.right (And.right (And.right (And.right (And.right (And.right (And.right (by assumption))))))))))))))))) gg) | (go_at_call 36; (refine (cl.out _ (And.right (And.right (And.right (And.right (And.right (And.right (And.right (And.right (And.right (And.right (And.right (And.right (And.right (And.right (And.right (And.right (by assumption)))))))))))))))))).mono ?_); rintro e V3 ⟨rfl, gg⟩; have G3 : Bl w5 V3 := Bl.trans (And.right (And.right (And.right (And.right (And.right (And.right (And.right (And.right (And.right (And.right (And.right (And.right (And.right (And.right (And.right (And.right (by assumption))))))))))))))))) gg)))
  all_goals
    go_wp2
    go_ret
    exact ⟨rfl, G5.trans (by assumption)⟩
theorem words_core (ea eb : Ev) (hA : I64e ea) (hB : I64e eb) (w : World) (hS : Sh w) (hT : Tb w) : Calls Tryd.prog 11 #[vE ea, vE eb] w (fun e w' => e = .returned (.bool true) ∧ Bl w w') :=
  words_walk ea.k ea.id ea.a ea.b eb.k eb.id eb.a eb.b (goodE ea).k (goodE ea).id (goodE ea).a (goodE ea).b (goodE eb).k (goodE eb).id (goodE eb).a (goodE eb).b (shS (goodE ea)) (shS (goodE eb)) w
    (fun V _ => goodE1 ea V hA) (fun V _ => goodE1 eb V hB)
    (fun V g => evShow (goodE ea) (goodE_i64 ea) V (hS.bl g) (hT.bl g)) (fun V g => evShow (goodE eb) (goodE_i64 eb) V (hS.bl g) (hT.bl g)) (fun V g => livesE V (hS.bl g))
    (fun h => by rw [show goodE ea = goodE eb from h]) (fun h => toL_neE fun h' => h (shS_inj (goodE_ok ea) (goodE_ok eb) h'))

end Go.Proofs.YthkbenhlhldglaaDoor
