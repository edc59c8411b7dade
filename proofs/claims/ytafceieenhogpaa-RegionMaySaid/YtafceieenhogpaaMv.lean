/-
  What is proved: the statement RegionMay: which lists are regions is told as the document says. No conditions.
-/
import Derived.Test.YtafceieenhogpaaMw
import Derived.Test.YtafceieenhogpaaGo
import Derived.Test.YtafceieenhogpaaSm
import Derived.Deep.DeepCutAuto
import Derived.Deep.CutBlock
namespace Go.Proofs.Ytafceieenhogpaa
open Go.ChangeShapes Go.WideShapes Go.ChangeAt Go.RowKit Go.Joins Go.Sort

theorem near_len0 {R : List Rc} (h : IsReg R) (hi : InR near near R) : R.length ≤ 1296 := by
  obtain ⟨gb, eb⟩ := h.bands
  have h1 := rects_len gb.toWk (InR.bands gb (by rw [eb]; exact hi))
  rw [eb] at h1
  exact Nat.le_trans h1 (by simp [near])
theorem cellsR {w : World} {b : Nat} {v0 v1 v2 v3 : Value} {t : TypeId} (h : At w b #[v0, v1, v2, v3] t) : w.cell? ⟨b, 0, none⟩ = some v0 ∧ w.cell? ⟨b, 1, none⟩ = some v1 ∧ w.cell? ⟨b, 2, none⟩ = some v2 ∧ w.cell? ⟨b, 3, none⟩ = some v3 := ⟨h.cell 0, h.cell 1, h.cell 2, h.cell 3⟩
theorem OwR.capm0 {w : World} {B : Nat} {A : Option Addr} {c : Nat} {L : List Rc} (h : OwR w B A c L) : c ≤ 9223372036854775807 := by
  rcases h.2 with ⟨h1, h2⟩ | ⟨g, cap, cur, h1, _, _, _, h4, _⟩
  · injection h1 with a b c'; omega
  · injection h1 with a b c'; unfold maxLen at h4; omega
theorem own_set {w : World} {B s n c g : Nat} {e : TypeId} {xs : List Value} (h : w.ownsRow B e s (.slice (some ⟨g, 0, none⟩) n c) n xs) (i : Nat) (u : Value) : (w.setCell ⟨g, i, none⟩ u).ownsRow B e s (.slice (some ⟨g, 0, none⟩) n c) n (xs.set i u) := by
  obtain ⟨h1, h2⟩ := h
  rcases h2 with ⟨h2, _⟩ | ⟨g', cap, cur, h2, h3, h4, h5, h6, h7, h8⟩
  · cases h2
  · injection h2 with e1 e2 e3
    injection e1 with e1
    injection e1 with e1
    subst e1
    have hp := Go.Joins.block_setCell (i := i) (show At w g cur e from h4) u
    refine ⟨by simpa using h1, .inr ⟨g, cap, cur.setIfInBounds i u, by rw [e3], h3, by simpa using hp, h5, h6, by simpa using h7, ?_⟩⟩
    rw [Array.toList_setIfInBounds, List.take_set, h8]
theorem own_at {w : World} {B s n c g : Nat} {e : TypeId} {xs : List Value} (h : w.ownsRow B e s (.slice (some ⟨g, 0, none⟩) n c) n xs) (i : Nat) : w.frozen? ⟨g, i, none⟩ = false := by
  rcases h.2 with ⟨h2, _⟩ | ⟨g', cap, cur, h2, h3, h4, h5, h6, h7, h8⟩
  · cases h2
  · injection h2 with e1 e2 e3
    injection e1 with e1
    injection e1 with e1
    subst e1
    exact (show At w g cur e from h4).free i
/-- A rectangle of a row that the call owns is stored. -/
theorem OwR.put {w : World} {B g c k : Nat} {L : List Rc} {o : Rc} (h : OwR w B (some ⟨g, 0, none⟩) c L) (ho : L[k]? = some o) (r : Rc) :
    OwR ((((w.setCell ⟨g, k * 4, none⟩ (.int .i64 r.a)).setCell ⟨g, k * 4 + 1, none⟩ (.int .i64 r.b)).setCell ⟨g, k * 4 + 2, none⟩ (.int .i64 r.c)).setCell ⟨g, k * 4 + 3, none⟩ (.int .i64 r.d)) B (some ⟨g, 0, none⟩) c (L.set k r) := by
  have hk := get_lt ho
  have e1 := cR_set L k o ⟨r.a, o.b, o.c, o.d⟩ 0 (.int .i64 r.a) ho (by omega) rfl
  have e2 := cR_set (L.set k ⟨r.a, o.b, o.c, o.d⟩) k ⟨r.a, o.b, o.c, o.d⟩ ⟨r.a, r.b, o.c, o.d⟩ 1 (.int .i64 r.b) (by simp [hk]) (by omega) rfl
  have e3 := cR_set (L.set k ⟨r.a, r.b, o.c, o.d⟩) k ⟨r.a, r.b, o.c, o.d⟩ ⟨r.a, r.b, r.c, o.d⟩ 2 (.int .i64 r.c) (by simp [hk]) (by omega) rfl
  have e4 := cR_set (L.set k ⟨r.a, r.b, r.c, o.d⟩) k ⟨r.a, r.b, r.c, o.d⟩ r 3 (.int .i64 r.d) (by simp [hk]) (by omega) rfl
  simp only [List.set_set] at e2 e3 e4
  have q := own_set (own_set (own_set (own_set h (k * 4 + 0) (.int .i64 r.a)) (k * 4 + 1) (.int .i64 r.b)) (k * 4 + 2) (.int .i64 r.c)) (k * 4 + 3) (.int .i64 r.d)
  rw [← e1, ← e2, ← e3, ← e4] at q
  unfold OwR
  rw [List.length_set]
  exact q
theorem Bl.put4 {a w : World} (h : Bl a w) {g i j k l : Nat} (hk : a.heap.size ≤ g) (u0 u1 u2 u3 : Value) : Bl a ((((w.setCell ⟨g, i, none⟩ u0).setCell ⟨g, j, none⟩ u1).setCell ⟨g, k, none⟩ u2).setCell ⟨g, l, none⟩ u3) :=
  (((h.setCell (p := ⟨g, i, none⟩) hk u0).setCell (p := ⟨g, j, none⟩) hk u1).setCell (p := ⟨g, k, none⟩) hk u2).setCell (p := ⟨g, l, none⟩) hk u3

set_option maxRecDepth 100000 in
set_option maxHeartbeats 4000000 in
theorem may_core (A : Option Addr) (ca : Nat) (a : List Rc) (at0 : Int) (ra rb rc rd : Int) (w : World) (hA : Rs w A a) (ia : I64r a) (hlc : a.length ≤ ca) (hc : ca ≤ 9223372036854775807) (hat : I64 at0) (h1 : I64 ra) (h2 : I64 rb) (h3 : I64 rc) (h4 : I64 rd) :
    Calls Try.prog 3 #[.slice A a.length ca, .int .i64 at0, .agg #[.int .i64 ra, .int .i64 rb, .int .i64 rc, .int .i64 rd]] w (LivesQ w) := by
  have G0 := (Gr.refl w).alloc (.cells #[.int .i64 ra, .int .i64 rb, .int .i64 rc, .int .i64 rd] 24)
  have E0 := At.new w #[.int .i64 ra, .int .i64 rb, .int .i64 rc, .int .i64 rd] 24
  have cg := fun (w' : World) (g : Bl w w') => refgood1 A ca a w' (hA.bl g) ia (by omega)
  obtain ⟨LX, hX, hX8, hXc⟩ : ∃ LX, Rs w A LX ∧ LX.length ≤ 8 ∧ ((8 < a.length ∧ 8 = LX.length) ∨ (a.length ≤ 8 ∧ a.length = LX.length)) := by
    rcases Nat.lt_or_ge 8 a.length with h8 | h8
    · refine ⟨a.take 8, ?_, by simp; omega, .inl ⟨h8, by simp; omega⟩⟩
      obtain ⟨b', off', rfl, hrow⟩ := hA.opened (by omega)
      exact .inr ⟨b', off', rfl, (hrow.half 8).1⟩
    · exact ⟨a, hA, h8, .inr ⟨h8, rfl⟩⟩
  have cX := fun (V : World) (g : Bl w V) => mayX1 A ca LX V (hX.bl g) (by omega)
  have cY := fun (V : World) (g : Bl w V) (h : LX.length ≤ ca) => refmayX A ca LX V (hX.bl g) (by omega) h hc
  have cs := fun w => small1 ra rb rc rd w h1 h2 h3 h4
  generalize smallR ra rb rc rd = sm at *
  obtain ⟨sa, sb, sc, sd⟩ := sm
  dsimp only at cs
  generalize a.length = la at *
  go_enter Try.func3, Try.ntmps3
  go_wp2_with fail
  refine (cg _ G0.bl).mono ?_
  clear cg
  rintro e v1 ⟨Ag, cG, GL, rfl, own, hG, g1⟩
  have E1 := E0.bl g1
  have G1 := G0.bl.trans g1
  have hsz0 := G0.size
  clear g1 E0
  have hGl : GL.length ≤ 1296 := near_len0 hG.reg hG.inr
  go_upto_if 13 with fail
  go_cut [0] (fun o wx => ∃ mw : Nat, o = .slice A mw ca ∧ Hid (mw = LX.length) ∧ mw ≤ ca ∧ wx = v1)
  case first =>
    rcases hXc with ⟨h5, hlx⟩ | ⟨h5, hlx⟩
    · have h5i : (8 : Int) < (la : Int) := by omega
      replace hlx := Lib.hid hlx
      replace hX8 := Lib.hid hX8
      go_wp2
      go_meet
      exact ⟨8, rfl, hlx, by omega, rfl⟩
    · have h5i : ¬ (8 : Int) < (la : Int) := by omega
      replace hlx := Lib.hid hlx
      replace hX8 := Lib.hid hX8
      go_wp2
      go_meet
      exact ⟨la, rfl, hlx, by omega, rfl⟩
  case rest =>
    obtain ⟨mw, rfl, hmw, hmwc, rfl⟩ := hcut
    obtain ⟨v1, rfl⟩ : ∃ V : World, V = wc := ⟨_, rfl⟩
    have cX1 := cX _ G1
    rw [← hmw.out] at cX1
    have cY1 := fun V (g : Bl w V) => cY V g (by rw [← hmw.out]; exact hmwc)
    rw [← hmw.out] at cY1
    clear cX cY hXc
    replace hX8 := Lib.hid hX8
    go_wp2_with fail
    refine cX1.mono ?_
    clear cX1
    rintro e v2 ⟨x1, rfl, i1, g2⟩
    have G2 := G1.trans g2
    go_wp2_with fail
    refine (cY1 _ G2).mono ?_
    clear cY1
    rintro e v3 ⟨x2, rfl, i2, g3⟩
    obtain rfl : x1 = x2 := Bool.eq_iff_iff.2 (i1.trans i2.symm)
    have G3 := G2.trans g3
    have own3 := (own.bl g2).bl g3
    have E3 := (E1.bl g2).bl g3
    have e1 : (x1 != x1) = false := by simp
    clear own g2 g3 i1 i2 E1
    obtain ⟨B, hBd, hGB⟩ := hG.reg
    have cM := mayR1 Ag cG B GL v3 own3.rs hGB hBd (by omega)
    clear hBd hGB
    obtain ⟨nG, hnG⟩ : ∃ n, n = GL.length := ⟨_, rfl⟩
    rw [← hnG] at cM hGl ⊢
    replace hnG := Lib.hid hnG
    replace hG := Lib.hid hG
    go_wp2_with fail
    refine cM.mono ?_
    clear cM
    rintro e v4 ⟨rfl, g4⟩
    have G4 := G3.trans g4
    have own4 := own3.bl g4
    have E4 := E3.bl g4
    clear own3 E3 g4 e1
    by_cases hz : nG = 0
    · have hzi : ((nG : Int) == 0) = true := by simp; omega
      replace hz := Lib.hid hz
      go_wp2_with fail
      refine (lives1 _).mono ?_
      rintro e v5 ⟨rfl, g5⟩
      go_wp2
      go_ret
      exact ⟨rfl, G4.trans g5⟩
    · have hzi : ((nG : Int) == 0) = false := by simp; omega
      obtain ⟨g, rfl, hgB, _⟩ : ∃ g, Ag = some ⟨g, 0, none⟩ ∧ (w.alloc (.cells #[.int .i64 ra, .int .i64 rb, .int .i64 rc, .int .i64 rd] 24)).heap.size ≤ g ∧ g < v4.heap.size := by
        rcases own4.2 with ⟨h1, h2⟩ | ⟨g, cap, cur, h1, h2, h3, _⟩
        · exfalso; have := hnG.out; omega
        · injection h1 with a b c'
          refine ⟨g, a, h2, ?_⟩
          rcases Nat.lt_or_ge g v4.heap.size with hl | hl
          · exact hl
          · rw [Array.getElem?_eq_none hl] at h3; cases h3
      have hgw : w.heap.size < g := by simp at hgB; omega
      have hca := fun w => around1 at0 (nG : Int) w hat (by omega)
      have hab := around_bd at0 (nG : Int) (by omega)
      generalize around at0 (nG : Int) = q at *
      obtain ⟨K, rfl⟩ : ∃ K : Nat, q = K := ⟨q.toNat, by omega⟩
      have hKn : K < nG := by omega
      obtain ⟨o, ho⟩ := list_at (l := GL) (k := K) (by have := hnG.out; omega)
      obtain ⟨z0, z1, z2, z3⟩ := cellsR E4
      have CELLS : ∀ (V : World) (L : List Rc) (r : Rc), OwR V (w.alloc (.cells #[.int .i64 ra, .int .i64 rb, .int .i64 rc, .int .i64 rd] 24)).heap.size (some ⟨g, 0, none⟩) cG L → L[K]? = some r →
          (V.cell? ⟨g, K * 4, none⟩ = some (.int .i64 r.a) ∧ V.cell? ⟨g, K * 4 + 1, none⟩ = some (.int .i64 r.b) ∧ V.cell? ⟨g, K * 4 + 2, none⟩ = some (.int .i64 r.c) ∧ V.cell? ⟨g, K * 4 + 3, none⟩ = some (.int .i64 r.d)) ∧
          V.frozen? ⟨g, K * 4, none⟩ = false ∧ V.frozen? ⟨g, K * 4 + 1, none⟩ = false ∧ V.frozen? ⟨g, K * 4 + 2, none⟩ = false ∧ V.frozen? ⟨g, K * 4 + 3, none⟩ = false := fun V L r h hr => by
        obtain ⟨b, off, hA, hrow⟩ := h.rs.opened (by have := get_lt hr; omega)
        injection hA with hA
        injection hA with h1 h2
        subst h1 h2
        have := hrow K r hr
        simp only [Nat.zero_add] at this
        exact ⟨this, own_at h _, own_at h _, own_at h _, own_at h _⟩
      have MAYS : ∀ (V : World) (L : List Rc), OwR V (w.alloc (.cells #[.int .i64 ra, .int .i64 rb, .int .i64 rc, .int .i64 rd] 24)).heap.size (some ⟨g, 0, none⟩) cG L → L.length = nG → Calls Try.prog 10 #[.slice (some ⟨g, 0, none⟩) nG cG] V (MayQ V L) ∧ ∀ V', Bl V V' → Calls Try.prog 11 #[.slice (some ⟨g, 0, none⟩) nG cG] V' (MayQ V' L) := fun V L h hl => by
        have h1 := mayX1 (some ⟨g, 0, none⟩) cG L V h.rs (by omega)
        have h2 := fun V' (gv : Bl V V') => refmayX (some ⟨g, 0, none⟩) cG L V' (h.rs.bl gv) (by omega) (h.cap) (OwR.capm0 h)
        rw [hl] at h1 h2
        exact ⟨h1, h2⟩
      replace CELLS := Lib.hid CELLS
      replace MAYS := Lib.hid MAYS
      have hKi : (K : Int) < (nG : Int) := by omega
      go_wp2_with fail
      refine (hca _).mono ?_
      rintro e v5 ⟨rfl, rfl⟩
      clear hca
      go_wp2_with fail
      refine (cs _).mono ?_
      clear cs z0 z1 z2 z3
      rintro e v5 ⟨rfl, g5⟩
      have own5 := own4.bl g5.bl
      have G5 := G4.gr g5
      obtain ⟨⟨c0, c1, c2, c3⟩, f0, f1, f2, f3⟩ := CELLS.out _ _ _ own5 ho
      have own6 := own5.put ho ⟨sa, sb, sc, sd⟩
      have G6 := G5.put4 (i := K * 4) (j := K * 4 + 1) (k := K * 4 + 2) (l := K * 4 + 3) (Nat.le_of_lt hgw) (.int .i64 sa) (.int .i64 sb) (.int .i64 sc) (.int .i64 sd)
      dsimp only at own6
      obtain ⟨V6, hV6⟩ : ∃ V, V = ((((v5.setCell ⟨g, K * 4, none⟩ (.int .i64 sa)).setCell ⟨g, K * 4 + 1, none⟩ (.int .i64 sb)).setCell ⟨g, K * 4 + 2, none⟩ (.int .i64 sc)).setCell ⟨g, K * 4 + 3, none⟩ (.int .i64 sd)) := ⟨_, rfl⟩
      rw [← hV6] at own6 G6
      obtain ⟨m1, m2⟩ := MAYS.out V6 _ own6 (by rw [List.length_set]; exact hnG.out.symm)
      clear own4 own5 G4 E4 g5
      go_wp2_with fail
      rw [← hV6]
      clear hV6 c0 c1 c2 c3 f0 f1 f2 f3
      refine m1.mono ?_
      rintro e v7 ⟨x3, rfl, i3, g7⟩
      go_wp2_with fail
      refine (m2 _ g7).mono ?_
      clear m1 m2
      rintro e v8 ⟨x4, rfl, i4, g8⟩
      obtain rfl : x3 = x4 := Bool.eq_iff_iff.2 (i3.trans i4.symm)
      have e3 : (x3 != x3) = false := by simp
      have own8 := (own6.bl g7).bl g8
      have G8 := (G6.trans g7).trans g8
      clear own6 G6 g7 g8 i3 i4
      have hl8 : (GL.set K ⟨sa, sb, sc, sd⟩).length = nG := by rw [List.length_set]; exact hnG.out.symm
      generalize GL.set K ⟨sa, sb, sc, sd⟩ = G2L at *
      obtain ⟨o2, ho2⟩ := list_at (l := G2L) (k := K) (by omega)
      obtain ⟨⟨pa, pb, pc, pd⟩, hp⟩ := list_at (l := G2L) (k := 0) (by omega)
      obtain ⟨⟨c0, c1, c2, c3⟩, f0, f1, f2, f3⟩ := CELLS.out _ _ _ own8 ho2
      obtain ⟨b', off', hA', hrow'⟩ := own8.rs.opened (by omega)
      injection hA' with hA'
      injection hA' with q1 q2
      subst q1 q2
      obtain ⟨d0, d1, d2, d3⟩ := hrow' 0 _ hp
      simp only [Nat.zero_mul, Nat.zero_add, Nat.add_zero] at d0 d1 d2 d3
      clear hrow'
      have own9 := own8.put ho2 ⟨pa, pb, pc, pd⟩
      have G9 := G8.put4 (i := K * 4) (j := K * 4 + 1) (k := K * 4 + 2) (l := K * 4 + 3) (Nat.le_of_lt hgw) (.int .i64 pa) (.int .i64 pb) (.int .i64 pc) (.int .i64 pd)
      dsimp only at own9
      obtain ⟨V9, hV9⟩ : ∃ V, V = ((((v8.setCell ⟨g, K * 4, none⟩ (.int .i64 pa)).setCell ⟨g, K * 4 + 1, none⟩ (.int .i64 pb)).setCell ⟨g, K * 4 + 2, none⟩ (.int .i64 pc)).setCell ⟨g, K * 4 + 3, none⟩ (.int .i64 pd)) := ⟨_, rfl⟩
      rw [← hV9] at own9 G9
      obtain ⟨m1, m2⟩ := MAYS.out V9 _ own9 (by rw [List.length_set]; exact hl8)
      replace hl8 := Lib.hid hl8
      go_wp2_with fail
      rw [← hV9]
      clear hV9 c0 c1 c2 c3 f0 f1 f2 f3 d0 d1 d2 d3 own8 G8
      refine m1.mono ?_
      rintro e v10 ⟨x5, rfl, i5, g10⟩
      go_wp2_with fail
      refine (m2 _ g10).mono ?_
      clear m1 m2
      rintro e v11 ⟨x6, rfl, i6, g11⟩
      obtain rfl : x5 = x6 := Bool.eq_iff_iff.2 (i5.trans i6.symm)
      have e5 : (x5 == x5) = true := by simp
      have G11 := (G9.trans g10).trans g11
      clear i5 i6
      go_wp2_with fail
      refine (lives1 _).mono ?_
      rintro e v12 ⟨rfl, g12⟩
      go_wp2
      go_ret
      exact ⟨rfl, G11.trans g12⟩

set_option maxRecDepth 100000 in
theorem regionMay_lifted (os : Os) (started : os.Started) (H : Type) (enc : TypeId × Value → H) :
    ReturnsInHanded {} Try.checked os 3 .any (Rows.regionMaySpec.pre6 enc Try.prog Try.f3 Rows.regionMayRow.domain false) (Rows.regionMaySpec.post enc Try.prog Try.f3 false true false false) := by
  refine returnsInHanded_of_change (C := Try.checked) own started (by kernel_rfl) Try.func3
    (ChangeSpec.witness6 (enc := enc) (C := Try.checked) false ⟨#[], #[.slice none 0 0, .int .i64 0, .agg #[.int .i64 0, .int .i64 0, .int .i64 0, .int .i64 0]], []⟩ 8 (by kernel_rfl) (by kernel_rfl) (by kernel_rfl) (by kernel_rfl)) ?_
  intro W base args ds gs before hval0 hW hcnd _
  have hval : ∀ (j : Nat) t v, Try.f3.params[j]? = some t → args[j]? = some v → Value.okWide Try.prog W .any base t v := hval0
  have hW' := hW
  obtain ⟨p, q, hA0, hV, rfl, hfz, hnd⟩ := hW
  have hA : DataW.TrodAll enc Try.prog W 0 (fun _ => true) true Try.f3.params.toList args.toList ds p := hA0
  rw [Try.params3] at hA hval
  obtain ⟨v0, vs0, d0, ds0, p0, q0, hargs, rfl, rfl, h0, r0⟩ := trodAll_cons hA
  obtain ⟨v1, vs1, d1, ds1, p1, q1, rfl, rfl, rfl, h1, r1⟩ := trodAll_cons r0
  obtain ⟨v2, vs2, d2, ds2, p2, q2, rfl, rfl, rfl, h2, r2⟩ := trodAll_cons r1
  obtain ⟨rfl, rfl, rfl⟩ := trodAll_nil r2
  obtain rfl : args = #[v0, v1, v2] := by cases args; simp_all
  obtain ⟨rfl, rfl⟩ := trodVars_none hV
  obtain ⟨A0, c0, L0, rfl, hc0, hm0, hr0, hI0⟩ := open_rects (hval 0 22 v0 rfl rfl) h0
  unfold maxLen at hm0
  obtain ⟨n1, rfl, rfl, rfl, un1⟩ := open_int Try.underlying3 (hval 1 3 v1 rfl rfl) h1
  have wn1 := I64.of_wf un1
  obtain ⟨a2, b2, c2, d2, rfl, rfl, rfl, ua2, ub2, uc2, ud2⟩ := open_rect (hval 2 24 v2 rfl rfl) h2
  have wa2 := I64.of_wf ua2
  have wb2 := I64.of_wf ub2
  have wc2 := I64.of_wf uc2
  have wd2 := I64.of_wf ud2
  clear hA0 hval0
  simp only [List.append_nil] at hW'
  have hlt := hW'.lt
  refine (may_core A0 c0 L0 n1 a2 b2 c2 d2 W hr0 hI0 hc0 hm0 wn1 wa2 wb2 wc2 wd2).mono fun e W' ⟨he, hb⟩ => ?_
  subst he
  exact ⟨_, rfl, close_below (pa := p0) (pv := []) hW' (fun _ _ _ => (trodAll_cons_mk (shut_bool Try.underlying4 _) trodAll_mk0)) (fun sp hsp => by
      have := (trodAll_cons_mk (WideElems.Trod_stays laidOut (by kernel_rfl) (of_decide_eq_true (by kernel_rfl)) h0 (fun x hx => Below.same hb (hlt x (by simp [hx]))) (sp' := sp) (fun x hx => hsp x (by simp [hx]))) (trodAll_cons_mk (shut_int Try.underlying3 un1) (trodAll_cons_mk (shut_rect ua2 ub2 uc2 ud2) trodAll_mk0)))
      simp only [List.append_nil] at this
      exact this)
    (fun _ _ => rfl) (by simp) hb (ok_one (by kernel_rfl) rfl (okWide_bool_mk Try.underlying4 _))⟩

theorem regionMay_holds : Rows.RegionMaySaid :=
  OpenClaim.holds_of_wide 3 Try.f3 rfl rfl rfl rfl rfl rfl rfl ⟨rfl, rfl, rfl, rfl, rfl⟩ rfl rfl rfl rfl rfl (by kernel_rfl) Try.func3 (by kernel_rfl)
    (of_decide_eq_true (by kernel_rfl)) (by unfold Func.isWrapper; first | (rw [if_pos (by decide +kernel)]; kernel_rfl) | (rw [if_neg (by decide +kernel)]; exact ⟨rfl, rfl⟩))
    (fun os started H enc _ => regionMay_lifted os started H enc)

#print axioms regionMay_holds
