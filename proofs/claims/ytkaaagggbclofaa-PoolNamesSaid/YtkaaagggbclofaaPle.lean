/-
  What is proved: what Destroy, Write, Make and There of package pool do to a pool that reads as a list of buffers. Conditions: at most 1000 buffers, none held more than 1000 times; numbers are ints.
-/
import Derived.Test.YtkaaagggbclofaaPld
namespace Go.Proofs.Ytkaaagggbclofaa
open Go.ChangeShapes Go.WideShapes Go.ChangeAt Go.RowKit Go.Joins Go.Sort Go.Deep Go.Maps

section
variable {w : World} {pp nb bb n : Nat} {Q : List Pq} {S : List Bf}
theorem plDestroy1 (h : PlR w pp nb bb Q S n) (hn : n ≤ 1000) (i : Int) (hi : I64 i) : Calls Try.prog 14 #[.pointer (some ⟨pp, 0, none⟩), .int .i64 i] w (PlQ w pp nb bb Q (dsS S i) (n + 1) (.int .i64 (fiE S i))) := by
  have cF := plFind1 h i hi
  have hok := h.ok.ds i
  have hup := h.up (Nat.le_succ n)
  have ok := h.ok
  obtain ⟨⟨N, M, hs, hN, hM⟩, _⟩ := h
  unfold plN fiE at cF
  unfold dsS at hok
  unfold dsS fiE
  cases ha : plF i S with
  | none =>
    rw [ha] at cF
    clear ha hs hok
    go_enter Try.func14, Try.ntmps14
    go_wp2_with fail
    refine cF.mono ?_
    rintro e w2 ⟨rfl, g2⟩
    go_wp2
    go_ret
    exact ⟨rfl, hup.bl g2.bl, Kx.bl g2.bl⟩
  | some k =>
    rw [ha] at cF hok
    dsimp only at cF hok ⊢
    obtain ⟨s, hk, hnm, hid⟩ := plF_some ha
    rw [getD_at hk] at hok ⊢
    obtain ⟨q, hq⟩ := hs.q hk
    have hlk := (List.getElem?_eq_some_iff.1 hk).1
    have ht : s.th = true := by simp [Bf.th, hnm]
    have h1 : kindL M k = q.bk := by rw [hM.kind hk ht, bkOf_at hq]
    have h2 : hasL M k = true := by rw [hM.has hk]; exact ht
    have hkk : I64 (k : Int) := by have := ok.few; unfold I64; omega
    have hXn : PlX pp nb bb Q nb := .inr (.inl rfl)
    have hXb : PlX pp nb bb Q bb := .inr (.inr (.inl rfl))
    have hdN := del_dmap N i
    have hdM := del_dmap M (k : Int)
    have hput : NmQ (dropL N i) (S.set k { s with nm := false }) := by rw [← hid]; exact hN.drop (t := { s with nm := false }) hk hnm rfl
    have cH := Lib.hid (fun (V : World) (hS : PlS V pp nb bb Q S (dropL N i) M) => plHeldL hS hk hq h1 h2 hkk)
    have P0 := Lib.hid (fun (V : World) (g : Kx (PlX pp nb bb Q) w V) (hS : PlS V pp nb bb Q S (dropL N i) M) (h0 : s.hd ≠ 0) => (show PlR V pp nb bb Q (S.set k { s with nm := false }) (n + 1) ∧ Kx (PlX pp nb bb Q) w V from
      ⟨⟨⟨_, M, hS.same hk rfl rfl rfl rfl rfl, hput, hM.put hk (by rw [ht]; simp [Bf.th]; omega)⟩, hok⟩, g⟩))
    have P1 := Lib.hid (fun (V : World) (g : Kx (PlX pp nb bb Q) w V) (hS : PlS V pp nb bb Q S (dropL N i) (dropL M k)) (h0 : s.hd = 0) => (show PlR V pp nb bb Q (S.set k { s with nm := false }) (n + 1) ∧ Kx (PlX pp nb bb Q) w V from
      ⟨⟨⟨_, _, hS.same hk rfl rfl rfl rfl rfl, hput, hM.drop hlk (by simp [Bf.th, h0])⟩, hok⟩, g⟩))
    have hcs : (s.hd ≠ 0 ∧ ((s.hd : Int) == 0) = false) ∨ (s.hd = 0 ∧ ((s.hd : Int) == 0) = true) := by simp; omega
    have c1 := fun (V : World) (g : Gr w V) => (hs.hd.gr g).cell 1
    have kS := Lib.hid (fun (V : World) (g : Gr w V) => hs.bl g.bl)
    clear ha hok hput hN hM hnm hid hk hq ht h1 h2 hlk hs
    generalize ({ s with nm := false } : Bf) = s' at *
    generalize s.hd = sh at *
    generalize s = s0 at *
    rcases hcs with ⟨hz, q1⟩ | ⟨hz, q1⟩
    · go_enter Try.func14, Try.ntmps14
      go_wp2_with fail
      refine cF.mono ?_
      rintro e v2 ⟨rfl, g2⟩
      have c12 := c1 v2 g2
      have hS2 := kS.out v2 g2
      have hown := hS2.np
      unfold Mp at hown
      go_wp2_with (at_delete; refine wpList_delete_own _ rfl _ _ 63 3 rfl 3 keyInt Try.underlying63 _ nb _ _ rfl hown _ _ rfl (keyOf_int_mk Try.underlying3 (wf64 hi)) ?_; intro v3 hown3 hturn3; rw [hdN] at hown3; have hS3 := hS2.names hturn3.grown (Mp.of hown3))
      refine (cH.out v3 hS3).mono ?_
      rintro e v4 ⟨rfl, g4⟩
      go_wp2
      go_ret
      exact ⟨rfl, P0.out _ (((Kx.bl g2.bl).then (Kx.by hturn3.grown hXn)).gr g4.bl) (hS3.bl g4.bl) hz⟩
    · go_enter Try.func14, Try.ntmps14
      go_wp2_with fail
      refine cF.mono ?_
      rintro e v2 ⟨rfl, g2⟩
      have c12 := c1 v2 g2
      have hS2 := kS.out v2 g2
      have hown := hS2.np
      unfold Mp at hown
      go_wp2_with (at_delete; refine wpList_delete_own _ rfl _ _ 63 3 rfl 3 keyInt Try.underlying63 _ nb _ _ rfl hown _ _ rfl (keyOf_int_mk Try.underlying3 (wf64 hi)) ?_; intro v3 hown3 hturn3; rw [hdN] at hown3; have hS3 := hS2.names hturn3.grown (Mp.of hown3))
      refine (cH.out v3 hS3).mono ?_
      rintro e v4 ⟨rfl, g4⟩
      have hS4 := hS3.bl g4.bl
      have c24 := hS4.hd.cell 2
      have hown4 := hS4.bp
      unfold Pm at hown4
      go_wp2_with (first | (at_delete; refine wpList_delete_own _ rfl _ _ 64 3 rfl 85 keyInt Try.underlying64 _ bb _ _ rfl hown4 _ _ rfl (keyOf_int_mk Try.underlying3 (wf64 hkk)) ?_; intro v5 hown5 hturn5; rw [hdM] at hown5) | go_in)
      go_ret
      exact ⟨rfl, P1.out _ ((((Kx.bl g2.bl).then (Kx.by hturn3.grown hXn)).gr g4.bl).then (Kx.by hturn5.grown hXb)) (hS4.those hturn5.grown (Pm.of hown5)) hz⟩

theorem plWrite1 (h : PlR w pp nb bb Q S n) (hn : n ≤ 1000) (i : Int) (hi : I64 i) (p r s t : Int) (A : Option Addr) (bs : List Int) (cb : Nat) (hA : Ns .u8 w A bs) (h8 : ∀ x ∈ bs, U8 x) (hcb : bs.length ≤ cb) (hc2 : cb ≤ maxLen) :
    Calls Try.prog 15 #[.pointer (some ⟨pp, 0, none⟩), .int .i64 i, .agg #[.int .i64 p, .int .i64 r, .int .i64 s, .int .i64 t], .slice A bs.length cb] w (PlQ w pp nb bb Q (wrS12 S i p r s t bs) (n + 1) (.int .i64 (wrE12 S i p r s t bs))) := by
  have gB := (Gr.refl w).alloc (.cells #[.int .i64 p, .int .i64 r, .int .i64 s, .int .i64 t] 31)
  have bx := At.new w #[.int .i64 p, .int .i64 r, .int .i64 s, .int .i64 t] 31
  have cF := plFind1 (h.bl gB.bl) i hi
  have hok := h.ok.wr i p r s t bs
  have hup := h.up (Nat.le_succ n)
  have ok := h.ok
  have cH0 := Lib.hid (fun (V : World) (g : Gr w V) (m : Int) (hm : I64 m) => plHeld1 (h.bl g.bl) m hm)
  obtain ⟨⟨N, M, hs, hN, hM⟩, _⟩ := h
  unfold plN fiE at cF
  unfold wrS12 at hok
  unfold wrS12 wrE12
  cases ha : plF i S with
  | none =>
    rw [ha] at cF
    clear ha hs hok cH0
    go_enter Try.func15, Try.ntmps15
    go_wp2_with fail
    refine cF.mono ?_
    rintro e w2 ⟨rfl, g2⟩
    go_wp2
    go_ret
    exact ⟨rfl, hup.bl (gB.trans g2).bl, Kx.bl (gB.trans g2).bl⟩
  | some k =>
    rw [ha] at cF hok
    dsimp only at cF hok ⊢
    obtain ⟨x, hk, hnm, hid⟩ := plF_some ha
    rw [getD_at hk] at hok ⊢
    obtain ⟨q, hq⟩ := hs.q hk
    have ht : x.th = true := by simp [Bf.th, hnm]
    have h1 : kindL M k = q.bk := by rw [hM.kind hk ht, bkOf_at hq]
    have h2 : hasL M k = true := by rw [hM.has hk]; exact ht
    have hlk := (List.getElem?_eq_some_iff.1 hk).1
    have hkk : I64 (k : Int) := by have := ok.few; unfold I64; omega
    have cH := Lib.hid (fun (V : World) (g : Gr w V) => (show Calls Try.prog _ _ V (Rt V (.int .i64 (x.hd : Int))) from plHeldL (hs.bl g.bl) hk hq h1 h2 hkk))
    clear cH0
    by_cases hb : 0 < x.hd
    · rw [if_pos hb, if_pos hb]
      have q1 : decide (0 < x.hd) = true := by simpa using hb
      clear ha hs hok
      generalize x.hd = sh at *
      go_enter Try.func15, Try.ntmps15
      go_wp2_with fail
      refine cF.mono ?_
      rintro e w2 ⟨rfl, g2⟩
      go_wp2_with fail
      refine (cH.out _ (gB.trans g2)).mono ?_
      rintro e w3 ⟨rfl, g3⟩
      go_wp2
      go_ret
      exact ⟨rfl, hup.bl ((gB.trans g2).trans g3).bl, Kx.bl ((gB.trans g2).trans g3).bl⟩
    · rw [if_neg hb] at hok
      rw [if_neg hb, if_neg hb]
      have q1 : decide (0 < x.hd) = false := by simp; omega
      have hX := (PlX.q (pp := pp) (nb := nb) (bb := bb) hq).2
      have hI := (hs.bf k x q hk hq).2
      have cW := Lib.hid (fun (V : World) (g : Gr w V) => pwriteS V (hI.gr g) p r s t A bs cb (hA.bl g.bl) h8 hcb hc2)
      have P0 := Lib.hid (fun (V : World) (g : Gr w V) (V' : World) (k' : V.grownBy V' (some q.pc)) (hJ : Img V' q.pm q.pc x.W x.H (wtL x.W x.H x.L p r s t bs)) => (show PlR V' pp nb bb Q (S.set k { x with L := wtL x.W x.H x.L p r s t bs }) (n + 1) ∧ Kx (PlX pp nb bb Q) w V' from
        ⟨⟨⟨N, M, (hs.bl g.bl).drawn hk hq k' hJ, hN.put hk rfl rfl, hM.put hk (by simp [Bf.th])⟩, hok⟩, (Kx.bl g.bl).then (Kx.by k' hX)⟩))
      have hbq := (hs.bf k x q hk hq).1
      have n1 : some pp ≠ some q.pc := fun e => (hs.hd.neP hI.cs (by decide)) (Option.some.inj e)
      have n2 : some q.bk ≠ some q.pc := fun e => (hbq.neP hI.cs (by decide)) (Option.some.inj e)
      have n3 : some bb ≠ some q.pc := fun e => (hs.bp.ne hI.cs) (Option.some.inj e).symm
      have n4 : some w.heap.size ≠ some q.pc := fun e => by have := hI.cs.lt; have := Option.some.inj e; omega
      have F1 := fun (V : World) (g : w.grownBy V (some q.pc)) => (show V.cell? ⟨pp, 2, none⟩ = some (.map (some bb)) ∧ V.cell? ⟨q.bk, 1, none⟩ = some (.pointer (some ⟨q.pm, 0, none⟩)) ∧ (Instr.lookup 64 (.map (some bb)) (.int .i64 (k : Int)) false).run Try.prog V = .ok (.pointer (some ⟨q.bk, 0, none⟩)) V from
        ⟨(hs.hd.grown g n1).cell 2, (hbq.grown g n2).cell 1, run_lookQ (hs.bp.by g n3) hkk h1 h2⟩)
      clear ha hs hok hN hM hnm hid hk hq ht h1 h2 hlk hI hb hbq n1 n2 n3
      generalize ({ x with L := wtL x.W x.H x.L p r s t bs } : Bf) = x' at *
      generalize wtL x.W x.H x.L p r s t bs = L' at *
      generalize wtE x.W x.H p r s t bs = vv at *
      generalize x.hd = sh at *
      generalize x.W = xw at *
      generalize x.H = xh at *
      generalize x.L = xl at *
      generalize q.bk = qb at *
      generalize q.pm = qm at *
      generalize q.pc = qc at *
      obtain ⟨lb, hlb⟩ : ∃ lb, lb = bs.length := ⟨_, rfl⟩
      rw [← hlb] at cW ⊢
      replace hlb := Lib.hid hlb
      replace hcb := Lib.hid hcb
      have SK := Lib.hid (fun (V3 : World) (G3 : Gr w V3) (B3 : At V3 w.heap.size #[.int .i64 p, .int .i64 r, .int .i64 s, .int .i64 t] 31) (V : World) (g : V3.grownBy V (some qc)) => (show V.cell? ⟨w.heap.size, 0, none⟩ = some (.int .i64 p) ∧ V.cell? ⟨w.heap.size, 1, none⟩ = some (.int .i64 r) ∧ V.cell? ⟨w.heap.size, 2, none⟩ = some (.int .i64 s) ∧ V.cell? ⟨w.heap.size, 3, none⟩ = some (.int .i64 t) ∧ V.cell? ⟨pp, 2, none⟩ = some (.map (some bb)) ∧ V.cell? ⟨qb, 1, none⟩ = some (.pointer (some ⟨qm, 0, none⟩)) ∧ (Instr.lookup 64 (.map (some bb)) (.int .i64 (k : Int)) false).run Try.prog V = .ok (.pointer (some ⟨qb, 0, none⟩)) V ∧ V3.grownBy V (some qc) from
        ⟨(B3.grown g n4).cell 0, (B3.grown g n4).cell 1, (B3.grown g n4).cell 2, (B3.grown g n4).cell 3, (F1 V (By.trans (G3.by _) g)).1, (F1 V (By.trans (G3.by _) g)).2.1, (F1 V (By.trans (G3.by _) g)).2.2, g⟩))
      go_enter Try.func15, Try.ntmps15
      go_wp2_with fail
      refine cF.mono ?_
      rintro e w2 ⟨rfl, g2⟩
      go_wp2_with fail
      refine (cH.out _ (gB.trans g2)).mono ?_
      rintro e w3 ⟨rfl, g3⟩
      have SK3 := Lib.hid (SK.out w3 ((gB.trans g2).trans g3) ((bx.gr g2).gr g3))
      have G3 := (gB.trans g2).trans g3
      have cW3 := Lib.hid (fun V (g : Gr w3 V) => cW.out V (G3.trans g))
      have P3 := Lib.hid (fun V (g : Gr w3 V) => P0.out V (G3.trans g))
      clear SK cW P0 F1 cF cH gB bx g2 g3
      go_wp2
      go_region_held3 (fun V => V.cell? ⟨w.heap.size, 0, none⟩ = some (.int .i64 p) ∧ V.cell? ⟨w.heap.size, 1, none⟩ = some (.int .i64 r) ∧ V.cell? ⟨w.heap.size, 2, none⟩ = some (.int .i64 s) ∧ V.cell? ⟨w.heap.size, 3, none⟩ = some (.int .i64 t) ∧ V.cell? ⟨pp, 2, none⟩ = some (.map (some bb)) ∧ V.cell? ⟨qb, 1, none⟩ = some (.pointer (some ⟨qm, 0, none⟩)) ∧ (Instr.lookup 64 (.map (some bb)) (.int .i64 (k : Int)) false).run Try.prog V = .ok (.pointer (some ⟨qb, 0, none⟩)) V ∧ w3.grownBy V (some qc)) ((refine SK3.out _ ?_; repeat (first | with_reducible assumption | with_reducible exact by_refl _ _ | with_reducible exact By.trans (by_drew (by_refl _ _)) g7 | with_reducible exact By.trans (by_refl _ _) g7 | with_reducible apply by_drew))) ((first | (go_at_call 33; (refine (cW3.out _ (by first | with_reducible exact Gr.refl _ | with_reducible exact (Gr.refl _).drew)).mono ?_); rintro e V7 ⟨rfl, g7, I7⟩) | fail))
      go_wp2
      go_ret
      exact ⟨rfl, P3.out w3 (Gr.refl _) V7 (By.trans (by_drew (by_refl _ _)) g7) I7⟩
end

end Go.Proofs.Ytkaaagggbclofaa
