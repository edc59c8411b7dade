/-
  What is proved: the walk of the statement ArgsTypes; a world that holds the listed tables. No conditions.
-/
import Derived.Test.YtaebbkfbapajkaaDoorUt
namespace Go.Proofs.YtaebbkfbapajkaaDoor
open Go.RowKit Go.Sort

theorem vv_one {w : World} {g : Nat} {p : Av × Value} {t : TypeId} (h : At w g (c8 p).toArray t) (hs : Sv w p.2 p.1.b) : Vv w (some ⟨g, 0, none⟩) [p] := by
  refine ⟨.inr ⟨g, 0, rfl, fun k r hk j u hj => ?_⟩, fun q hq => by simp at hq; subst hq; exact hs⟩
  cases k with
  | zero =>
    simp at hk; subst hk
    rw [h.cell]
    simpa using hj
  | succ k => simp at hk

set_option maxRecDepth 100000 in
set_option maxHeartbeats 8000000 in
theorem types_core (p : Av × Value) (w : World) (hg : GoodA w p) :
    Calls Tryd.prog 8 #[g8 p] w fun e w' => e = .returned (.bool true) ∧ Bl w w' := by
  have G1 : Bl w ((w.alloc (.cells (c8 p).toArray 47)).alloc (.cells (c8 p).toArray 47)) := ((Bl.refl w).alloc _).alloc _
  have a1 := At.newAt (w := w.alloc (.cells (c8 p).toArray 47)) (n := w.heap.size + 1) (by simp) (c8 p).toArray 47
  have cf := fewV1 (some ⟨w.heap.size + 1, 0, none⟩) 1 [p] _ (vv_one a1 (hg.sv.bl G1)) (by unfold maxLen; simp)
  have hsl := hg.sv.isSl
  have hk : (fewA p.1).k = p.1.k := rfl
  have hbl : (fewA p.1).b.length ≤ 300 := by unfold fewA; dsimp only; rw [List.length_take]; omega
  obtain ⟨⟨k, n, s, x0, y0, x1, y1, b⟩, v⟩ := p
  unfold g8
  unfold c8 at cf G1 a1
  simp only [List.map_cons, List.map_nil, List.length_cons, List.length_nil] at cf
  have hfl : fewL [(⟨k, n, s, x0, y0, x1, y1, b⟩ : Av)] = [fewA ⟨k, n, s, x0, y0, x1, y1, b⟩] := rfl
  rw [hfl] at cf
  clear hfl hg a1
  dsimp only at *
  generalize fewA ⟨k, n, s, x0, y0, x1, y1, b⟩ = fa at *
  obtain ⟨Av', nv', cv', rfl⟩ := hsl
  replace cf := Lib.hid cf
  replace hbl := Lib.hid hbl
  replace hk := Lib.hid hk
  go_enter Tryd.func8, Tryd.ntmps8
  go_wp2_with fail
  refine cf.out.mono ?_
  rintro e w2 ⟨A2, c2, X, rfl, hX, own, hsv, g2⟩
  have G2 := G1.trans g2
  clear cf
  obtain ⟨q, rfl⟩ : ∃ q, X = [q] := by
    match X, hX with
    | [q], _ => exact ⟨q, rfl⟩
  simp only [List.map_cons, List.map_nil, List.cons.injEq, and_true] at hX
  subst hX
  have hvv := own.vv fun p hp => (hsv p hp).bl g2
  obtain ⟨b2, off2, q', rfl, hq', hcells, hsq⟩ := hvv.at (k := 0) (by simp)
  simp at hq'
  subst hq'
  have hsw := hsq
  obtain ⟨F0, F1, F2, F3, F4, F5, F6, F7⟩ := hcells
  simp only [Nat.zero_mul, Nat.add_zero] at F0 F1 F2 F3 F4 F5 F6 F7
  have ca := fun V => as1 q V
  have his := fun V (g : Bl w2 V) => (asV_is (hsq.bl g))
  generalize asV q = xv at *
  obtain ⟨⟨qk, qn, qs, qx0, qy0, qx1, qy1, qb⟩, qv⟩ := q
  unfold g8 at ca
  dsimp only at *
  obtain rfl : qk = k := hk.out
  have ci := fun V (g : Bl w2 V) => int1 _ xv V (his V g)
  have ct := fun V (g : Bl w2 V) => text1 _ xv V (his V g)
  have cr := fun V (g : Bl w2 V) => rect1 _ xv V (his V g)
  have cb := fun V (g : Bl w2 V) => bytes1 _ xv V (his V g) (by have := hbl.out; dsimp only at this ⊢; omega)
  unfold rI at ci
  unfold rT at ct
  unfold rR at cr
  unfold BytesQ at cb
  dsimp only at ci ct cr cb
  obtain ⟨R0, R1, R2, R3, hR⟩ : ∃ R0 R1 R2 R3 : Int, (if qk = 2 then (.agg #[.int .i64 qx0, .int .i64 qy0, .int .i64 qx1, .int .i64 qy1] : Value) else .agg #[.int .i64 0, .int .i64 0, .int .i64 0, .int .i64 0]) = .agg #[.int .i64 R0, .int .i64 R1, .int .i64 R2, .int .i64 R3] := by
    split <;> exact ⟨_, _, _, _, rfl⟩
  rw [hR] at cr
  generalize (if qk = 0 then qn else 0) = I0 at ci
  generalize (if qk = 1 then qs else (⟨#[]⟩ : ByteArray)) = S0 at ct
  generalize (if qk = 3 then qb else []) = B0 at cb
  replace ci := Lib.hid ci
  replace ct := Lib.hid ct
  replace cr := Lib.hid cr
  replace cb := Lib.hid cb
  obtain ⟨Aq, nq, cq, rfl⟩ := hsq.isSl
  clear hR his hsw hsq hvv hsv own hbl hk
  have a3 := At.new w2 #[.int .i64 qk, .int .i64 qn, .string qs, .int .i64 qx0, .int .i64 qy0, .int .i64 qx1, .int .i64 qy1, .slice Aq nq cq] 47
  have H3 : Bl w2 (w2.alloc (.cells #[.int .i64 qk, .int .i64 qn, .string qs, .int .i64 qx0, .int .i64 qy0, .int .i64 qx1, .int .i64 qy1, .slice Aq nq cq] 47)) := (Bl.refl w2).alloc _
  obtain ⟨pb, hpb⟩ : ∃ p, p = w2.heap.size := ⟨_, rfl⟩
  rw [← hpb] at a3
  obtain ⟨V3, hV3⟩ : ∃ V, V = w2.alloc (.cells #[.int .i64 qk, .int .i64 qn, .string qs, .int .i64 qx0, .int .i64 qy0, .int .i64 qx1, .int .i64 qy1, .slice Aq nq cq] 47) := ⟨_, rfl⟩
  rw [← hV3] at a3 H3
  replace hpb := Lib.hid hpb
  go_wp2_with fail
  rw [← hV3, ← hpb.out]
  clear hV3
  refine (ca _).mono ?_
  rintro e w4 ⟨rfl, g4⟩
  have H4 := H3.gr g4
  have a4 := a3.gr g4
  clear g4 a3 ca F0 F1 F2 F3 F4 F5 F6 F7
  go_wp2_with fail
  refine (ci.out _ H4).mono ?_
  rintro e w5 ⟨rfl, g5⟩
  have H5 := H4.gr g5
  have a5 := a4.gr g5
  clear g5 a4
  go_wp2_with fail
  refine (ct.out _ H5).mono ?_
  rintro e w6 ⟨rfl, g6⟩
  have H6 := H5.gr g6
  have a6 := a5.gr g6
  clear g6 a5
  go_wp2_with fail
  refine (cr.out _ H6).mono ?_
  rintro e w7 ⟨rfl, g7⟩
  have H7 := (H6.gr g7).alloc (.cells #[.int .i64 R0, .int .i64 R1, .int .i64 R2, .int .i64 R3] 45)
  have a7 := (a6.gr g7).alloc (.cells #[.int .i64 R0, .int .i64 R1, .int .i64 R2, .int .i64 R3] 45)
  clear g7 a6
  go_wp2_with fail
  refine (cb.out _ H7).mono ?_
  rintro e w8 ⟨A8, c8', rfl, s8, g8'⟩
  have H8 := H7.trans g8'
  have a8 := a7.bl g8'
  clear g8' a7 s8 ci ct cr cb
  have u0 : w8.cell? ⟨pb, 0, none⟩ = some (.int .i64 qk) := a8.cell 0
  have cl := fun V => livesA V
  clear a8
  go_wp2_with fail
  refine (cl _).mono ?_
  rintro e w9 ⟨rfl, g9⟩
  go_wp2
  go_ret
  exact ⟨by simp, (G2.trans H8).trans g9⟩

end Go.Proofs.YtaebbkfbapajkaaDoor
