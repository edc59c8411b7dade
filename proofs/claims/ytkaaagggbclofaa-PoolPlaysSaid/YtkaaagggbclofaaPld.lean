/-
  What is proved: what Let, Destroy, Write and Make of package pool do to a pool that reads as a list of buffers. Conditions: at most 1000 buffers, none held more than 1000 times; numbers are ints.
-/
import Derived.Test.YtkaaagggbclofaaPlc
namespace Go.Proofs.Ytkaaagggbclofaa
open Go.ChangeShapes Go.WideShapes Go.ChangeAt Go.RowKit Go.Joins Go.Sort Go.Deep Go.Maps

section
variable {w : World} {pp nb bb n : Nat} {Q : List Pq} {S : List Bf}
set_option maxRecDepth 100000 in
theorem run_lookN {b : Nat} {N : List Ik} {i : Int} (h : Mp w b N) (hi : I64 i) {k : Int} (hn : kindL N i = k) {t : Bool} (ht : hasL N i = t) : (Instr.lookup 63 (.map (some b)) (.int .i64 i) true).run Try.prog w = .ok (.tuple #[.int .i64 k, .bool t]) w := by
  obtain ⟨v, ps, hrun, hv⟩ := World.ownsMap.look_ok (zd := .lit (.int .i64 0)) (zp := []) h keyInt Try.underlying63 (zeroInt w) (plainElem_int Try.underlying3 (wf64 (by unfold I64; omega))) (keyOf_int_mk Try.underlying3 (wf64 hi))
  obtain ⟨c, rfl, hc, _⟩ := plainElem_int_inv Try.underlying3 hv
  rw [atKey_dmap0, hn] at hc
  rw [has_dmap, ht] at hrun
  injection hc with hc _
  injection hc with hc
  injection hc with _ hc
  rw [hrun, hc]
theorem plNamed1 {N M : List Ik} (hs : PlS w pp nb bb Q S N M) (hN : NmQ N S) {k : Nat} {s : Bf} {q : Pq} (hk : S[k]? = some s) (hq : Q[k]? = some q) (h1 : kindL M k = q.bk) (h2 : hasL M k = true) (hi : I64 s.id) (hkk : I64 (k : Int)) :
    Calls Try.prog 34 #[.pointer (some ⟨pp, 0, none⟩), .int .i64 (k : Int)] w (Rt w (.bool s.nm)) := by
  have c1 := fun x os => hs.hd.cells x os 1
  have c2 := fun x os => hs.hd.cells x os 2
  have d0 := fun x os => (hs.bf k s q hk hq).1.cells x os 0
  have l1 := fun x os => run_lookQ (hs.bp.bl (((Bl.refl w).drewN x).grow os)) hkk h1 h2
  have hh := hN.has s.id
  cases hf : plF s.id S with
  | none =>
    rw [hf] at hh
    have hnm : s.nm = false := by
      cases hx : s.nm
      · rfl
      · rw [plF_of hN hk hx] at hf; cases hf
    obtain ⟨kk, hkx⟩ : ∃ kk, kk = kindL N s.id := ⟨_, rfl⟩
    have l2 := fun x os => run_lookN (hs.np.bl (((Bl.refl w).drewN x).grow os)) hi hkx.symm hh
    rw [hnm]
    clear hf hh hkx hs hnm hk hq h1 h2 hN
    generalize s.id = i at *
    generalize q.bk = qb at *
    go_enter Try.func34, Try.ntmps34
    go_wp2_with fail
    refine wp_region_quiet_grown (by kernel_rfl) (by kernel_rfl) ?_
    repeat (first | go_big_quiet_step (fail) | quiet_step (fail))
    refine wpQuiet_nil ?_
    intro w2 g2
    go_wp2
    go_ret
    exact ⟨rfl, g2⟩
  | some j =>
    rw [hf] at hh
    have hkx := hN.kind hf
    have hnm : ((j : Int) == (k : Int)) = s.nm := by
      cases hx : s.nm
      · obtain ⟨t, t1, t2, _⟩ := plF_some hf
        have hjk : j ≠ k := by
          rintro rfl
          rw [hk] at t1; cases t1
          rw [hx] at t2; cases t2
        simp; omega
      · rw [plF_of hN hk hx] at hf; cases hf
        simp
    have l2 := fun x os => run_lookN (hs.np.bl (((Bl.refl w).drewN x).grow os)) hi hkx hh
    clear hf hh hkx hs hk hq h1 h2 hN
    generalize s.nm = nm at *
    generalize s.id = i at *
    generalize q.bk = qb at *
    go_enter Try.func34, Try.ntmps34
    go_wp2_with fail
    refine wp_region_quiet_grown (by kernel_rfl) (by kernel_rfl) ?_
    repeat (first | go_big_quiet_step (fail) | quiet_step (fail))
    refine wpQuiet_nil ?_
    intro w2 g2
    go_wp2
    go_ret
    exact ⟨by first | rfl | rw [hnm] | simp_all, g2⟩
theorem plHeldL {N M : List Ik} (hs : PlS w pp nb bb Q S N M) {k : Nat} {s : Bf} {q : Pq} (hk : S[k]? = some s) (hq : Q[k]? = some q) (h1 : kindL M k = q.bk) (h2 : hasL M k = true) (hm : I64 (k : Int)) :
    Calls Try.prog 16 #[.pointer (some ⟨pp, 0, none⟩), .int .i64 (k : Int)] w (Rt w (.int .i64 (s.hd : Int))) := by
  have c2 := hs.hd.cell 2
  have hbp := hs.bp
  have d2 := (hs.bf k s _ hk hq).1.cell 2
  clear hs hk hq
  generalize s.hd = sh at *
  generalize q.bk = qb at *
  go_enter Try.func16, Try.ntmps16
  go_wp2_with (first | (at_lookup; refine wp_lookP1 rfl _ _ rfl bb M k rfl rfl hbp hm qb h1 h2 ?_) | go_in)
  go_ret
  exact ⟨rfl, Gr.refl _⟩

theorem plLet1 (h : PlR w pp nb bb Q S n) (hn : n ≤ 1000) (m : Int) (hm : I64 m) : Calls Try.prog 17 #[.pointer (some ⟨pp, 0, none⟩), .int .i64 m] w (PlQ w pp nb bb Q (leS S m) (n + 1) (.tuple #[.int .i64 (leI S m), .bool (leB S m)])) := by
  have cH := plHeld1 h m hm
  have hok := h.ok.le m
  have hup := h.up (Nat.le_succ n)
  obtain ⟨⟨N, M, hs, hN, hM⟩, ok⟩ := h
  unfold hdN at cH
  unfold leS at hok
  unfold leS leI leB
  cases ha : atS S m with
  | none =>
    rw [ha] at cH
    clear ha hs hok
    go_enter Try.func17, Try.ntmps17
    go_wp2_with fail
    refine cH.mono ?_
    rintro e w2 ⟨rfl, g2⟩
    go_wp2
    go_ret2
    exact ⟨rfl, hup.bl g2.bl, Kx.bl g2.bl⟩
  | some k =>
    rw [ha] at cH hok
    dsimp only at cH hok ⊢
    obtain ⟨s, rfl, hk, ht, hg⟩ := atS_some ha
    rw [hg] at cH hok ⊢
    by_cases h0 : s.hd = 0
    · rw [h0] at cH
      rw [if_pos h0, if_pos h0, if_pos h0]
      clear hok ha hs hg h0
      go_enter Try.func17, Try.ntmps17
      go_wp2_with fail
      refine cH.mono ?_
      rintro e w2 ⟨rfl, g2⟩
      go_wp2
      go_ret2
      exact ⟨rfl, hup.bl g2.bl, Kx.bl g2.bl⟩
    · rw [if_neg h0] at hok
      rw [if_neg h0, if_neg h0, if_neg h0]
      obtain ⟨q, hq⟩ := hs.q hk
      have h1 : kindL M k = q.bk := by rw [hM.kind hk ht, bkOf_at hq]
      have h2 : hasL M k = true := by rw [hM.has hk]; exact ht
      have l1 := Lib.hid h1
      have l2 := Lib.hid h2
      have hle := ok.hds s (List.mem_of_getElem? hk)
      have hid := ok.ids s (List.mem_of_getElem? hk)
      have hX := (PlX.q (pp := pp) (nb := nb) (bb := bb) hq).1
      have hXb : PlX pp nb bb Q bb := .inr (.inr (.inl rfl))
      have hlk := (List.getElem?_eq_some_iff.1 hk).1
      obtain ⟨u, hu⟩ : ∃ u, s.hd = u + 1 := ⟨s.hd - 1, by omega⟩
      have e0 : s.hd - 1 = u := by omega
      rw [e0] at hok ⊢
      have w1 : wrap64 ((s.hd : Int) - 1) = (u : Int) := by rw [hu, Int.natCast_add]; rw [show ((u : Int) + (1 : Nat) - 1) = (u : Int) by omega]; exact w64 (by omega) (by omega)
      have w2 : IntKind.i64.wrap ((s.hd : Int) - 1) = (u : Int) := by rw [hu, Int.natCast_add]; rw [show ((u : Int) + (1 : Nat) - 1) = (u : Int) by omega]; exact IntWalk.i64_in _ (by omega)
      have z1 : ((s.hd : Int) == 0) = false := by simp; omega
      have hdel := del_dmap M (k : Int)
      -- what the cells say, wherever nothing has turned
      have F1 := Lib.hid (fun (V : World) (g : Gr w V) => (show V.cell? ⟨pp, 2, none⟩ = some (.map (some bb)) ∧ V.cell? ⟨q.bk, 2, none⟩ = some (.int .i64 (s.hd : Int)) ∧ V.cell? ⟨q.bk, 0, none⟩ = some (.int .i64 s.id) ∧ V.frozen? ⟨q.bk, 2, none⟩ = false ∧ Pm V bb M from
        ⟨(hs.hd.gr g).cell 2, ((hs.bf k s q hk hq).1.gr g).cell 2, ((hs.bf k s q hk hq).1.gr g).cell 0, ((hs.bf k s q hk hq).1.gr g).free 2, hs.bp.bl g.bl⟩))
      have K3 := fun (V : World) (g : Gr w V) => (hs.bl g.bl).held hk hq u
      have G3 := fun (V : World) (g : Gr w V) => (Kx.bl g.bl).then (Kx.by (By.set (p := ⟨q.bk, 2, none⟩) (By.refl V _) (.int .i64 (u : Int))) hX)
      have hput : NmQ N (S.set k { s with hd := u }) := hN.put hk rfl rfl
      have hk' : (S.set k { s with hd := u })[k]? = some { s with hd := u } := (getElem?_put hlk).2 (.inl ⟨rfl, rfl⟩)
      have cN := Lib.hid (fun (V : World) (g : Gr w V) => plNamed1 (K3 V g) hput hk' hq h1 h2 hid hm)
      have c2p := Lib.hid (fun (V : World) (g : Gr w V) => (K3 V g).hd.cell 2)
      have bpp := Lib.hid (fun (V : World) (g : Gr w V) => (K3 V g).bp)
      have P0 := Lib.hid (fun (V : World) (g : Gr w V) (V' : World) (k : Gr (V.setCell ⟨q.bk, 2, none⟩ (.int .i64 (u : Int))) V') (hth : ({ s with hd := u } : Bf).th = s.th) => (show PlR V' pp nb bb Q (S.set _ { s with hd := u }) (n + 1) ∧ Kx (PlX pp nb bb Q) w V' from
        ⟨⟨⟨N, M, (K3 V g).bl k.bl, hput, hM.put hk hth⟩, hok⟩, (G3 V g).gr k.bl⟩))
      have P1 := Lib.hid (fun (V : World) (g : Gr w V) (V' V2 : World) (k' : Gr (V.setCell ⟨q.bk, 2, none⟩ (.int .i64 (u : Int))) V') (hth : ({ s with hd := u } : Bf).th = false) (g2 : V'.grownBy V2 (some bb)) (hP : Pm V2 bb (dropL M k)) => (show PlR V2 pp nb bb Q (S.set k { s with hd := u }) (n + 1) ∧ Kx (PlX pp nb bb Q) w V2 from
        ⟨⟨⟨N, _, ((K3 V g).bl k'.bl).those g2 hP, hput, hM.drop hlk hth⟩, hok⟩, ((G3 V g).gr k'.bl).then (Kx.by g2 hXb)⟩))
      have T1 : s.nm = true ∨ u ≠ 0 → ({ s with hd := u } : Bf).th = s.th := fun h => by rw [ht]; rcases h with h | h <;> simp [Bf.th, h]; omega
      have T2 : s.nm = false → u = 0 → ({ s with hd := u } : Bf).th = false := fun h h' => by simp [Bf.th, h, h']
      have z2 : (s.nm && decide (s.hd = 1)) = (s.nm && decide (u = 0)) := by rw [hu]; simp
      rw [z2]
      have hA : u ≠ 0 → (s.nm && decide (u = 0)) = false := fun h => by simp [h]
      have hB : u = 0 → (s.nm && decide (u = 0)) = s.nm := fun h => by simp [h]
      have hcs : (u ≠ 0 ∧ decide ((0 : Int) < (u : Int)) = true) ∨ (u = 0 ∧ decide ((0 : Int) < (u : Int)) = false) := by simp; omega
      have hnm : ({ s with hd := u } : Bf).nm = s.nm := rfl
      dsimp only at cN
      clear hnm hok hN hM hput hk' K3 G3 hs hu z2 h1 h2 hid hk hq ht
      generalize ({ s with hd := u } : Bf) = s' at *
      generalize (s.nm && decide (u = 0)) = lb at *
      obtain ⟨ui, hui⟩ : ∃ ui : Int, ui = (u : Int) := ⟨_, rfl⟩
      simp only [← hui] at hcs F1 cN c2p bpp P0 P1 w1 w2
      clear hui
      generalize s.th = st at *
      generalize s.nm = nm at *
      generalize s.id = i at *
      generalize s.hd = sh at *
      generalize q.bk = qb at *
      replace hle := Lib.hid hle
      replace e0 := Lib.hid e0
      rcases hcs with ⟨hu0, q1⟩ | ⟨hu0, q1⟩
      · have hth := Lib.hid (T1 (.inr hu0))
        obtain rfl : lb = false := hA hu0
        clear hA hB T1 T2 hu0
        go_enter Try.func17, Try.ntmps17
        go_wp2_with fail
        refine cH.mono ?_
        rintro e v2 ⟨rfl, g2⟩
        obtain ⟨a1, a2, a3, a4, a5⟩ := F1.out v2 g2
        go_wp2_with (first | (at_lookup; refine wp_lookQ rfl _ _ rfl bb M k rfl rfl a5 hm qb l1.out l2.out ?_) | go_in)
        go_ret2
        exact ⟨rfl, P0.out v2 g2 _ (Gr.refl _) hth.out⟩
      · obtain rfl : lb = nm := hB hu0
        rcases Bool.eq_false_or_eq_true lb with hnm | hnm
        · have hth := Lib.hid (T1 (.inl hnm))
          subst hnm
          clear hA hB T1 T2 hu0
          go_enter Try.func17, Try.ntmps17
          go_wp2_with fail
          refine cH.mono ?_
          rintro e v2 ⟨rfl, g2⟩
          obtain ⟨a1, a2, a3, a4, a5⟩ := F1.out v2 g2
          go_wp2_with (at_lookup; refine wp_lookQ rfl _ _ rfl bb M k rfl rfl a5 hm qb l1.out l2.out ?_)
          refine (cN.out v2 g2).mono ?_
          rintro e v3 ⟨rfl, g3⟩
          have b3 : v3.cell? ⟨qb, 0, none⟩ = some (.int .i64 i) := (g3.cell (by simpa using World.block_lt_of_cell? v2 _ a3)).trans ((World.cell?_setCell_other _ _ _ _ (by simp)).trans a3)
          go_wp2
          go_ret2
          exact ⟨rfl, P0.out v2 g2 _ g3 hth.out⟩
        · have hth := Lib.hid (T2 hnm hu0)
          subst hnm
          clear hA hB T1 T2 hu0
          go_enter Try.func17, Try.ntmps17
          go_wp2_with fail
          refine cH.mono ?_
          rintro e v2 ⟨rfl, g2⟩
          obtain ⟨a1, a2, a3, a4, a5⟩ := F1.out v2 g2
          go_wp2_with (at_lookup; refine wp_lookQ rfl _ _ rfl bb M k rfl rfl a5 hm qb l1.out l2.out ?_)
          refine (cN.out v2 g2).mono ?_
          rintro e v3 ⟨rfl, g3⟩
          have e3 : v3.cell? ⟨qb, 0, none⟩ = some (.int .i64 i) := (g3.cell (by simpa using World.block_lt_of_cell? v2 _ a3)).trans ((World.cell?_setCell_other _ _ _ _ (by simp)).trans a3)
          have e2 : v3.cell? ⟨pp, 2, none⟩ = some (.map (some bb)) := (g3.cell (by simpa using World.block_lt_of_cell? v2 _ a1)).trans (by have := c2p.out v2 g2; simpa using this)
          have hb3 := (bpp.out v2 g2).bl g3.bl
          have hne := hb3.cell ⟨bb, 0, none⟩ rfl
          have hown := hb3
          unfold Pm at hown
          go_wp2_with (first
            | (at_delete; refine wpList_delete_own _ rfl _ _ 64 3 rfl 85 keyInt Try.underlying64 _ bb _ _ rfl hown _ _ rfl (keyOf_int_mk Try.underlying3 (wf64 hm)) ?_; intro v4 hown4 hturn4; rw [hdel] at hown4; have e4 : v4.cell? ⟨qb, 0, none⟩ = some (.int .i64 i) := hturn4.grown.cell e3 (fun h => by have e := Option.some.inj h; subst e; have := hb3.cell ⟨qb, 0, none⟩ rfl; rw [this] at e3; cases e3))
            | go_in)
          go_ret2
          exact ⟨rfl, P1.out v2 g2 v3 _ g3 hth.out hturn4.grown (Pm.of hown4)⟩

end

end Go.Proofs.Ytkaaagggbclofaa
