/-
  What is proved: what Make and There of package pool do to a pool that reads as a list of buffers. Conditions: at most 1000 buffers, none held more than 1000 times; numbers are ints.
-/
import Derived.Test.YtkaaagggbclofaaPle
import Derived.Test.YtkaaagggbclofaaWc
namespace Go.Proofs.Ytkaaagggbclofaa
open Go.ChangeShapes Go.WideShapes Go.ChangeAt Go.RowKit Go.Joins Go.Sort Go.Deep Go.Maps

section
variable {w : World} {pp nb bb n : Nat} {Q : List Pq} {S : List Bf}
/-- What Make leaves. -/
def PmQ (w : World) (pp nb bb : Nat) (Q : List Pq) (S' : List Bf) (n : Nat) (v : Value) (e : Ending) (w' : World) : Prop := ∃ Q', e = .returned v ∧ PlR w' pp nb bb Q' S' n ∧ Kx (PlX pp nb bb Q) w w' ∧ ∀ j, PlX pp nb bb Q' j → PlX pp nb bb Q j ∨ w.heap.size ≤ j
theorem PmQ.old {S' : List Bf} {m : Nat} {v : Value} {w' : World} (h : PlR w' pp nb bb Q S' m) (g : Bl w w') : PmQ w pp nb bb Q S' m v (.returned v) w' := ⟨Q, rfl, h, Kx.bl g, fun _ => .inl⟩
theorem plMake0 (h : PlR w pp nb bb Q S n) (i W H : Int) (hi : I64 i) (hf : (plF i S).isSome = true) : Calls Try.prog 12 #[.pointer (some ⟨pp, 0, none⟩), .int .i64 i, .int .i64 W, .int .i64 H] w (PmQ w pp nb bb Q S (n + 1) (.tuple #[.int .i64 (-1), .int .i64 6])) := by
  have hup := h.up (Nat.le_succ n)
  obtain ⟨⟨N, M, hs, hN, hM⟩, _⟩ := h
  have c1 := hs.hd.cell 1
  have hnp := hs.np
  have hh := hN.has i
  rw [hf] at hh
  obtain ⟨kk, hkk⟩ : ∃ kk, kk = kindL N i := ⟨_, rfl⟩
  replace hkk := hkk.symm
  clear hs hf
  go_enter Try.func12, Try.ntmps12
  go_wp2_with (first | (at_lookup; refine wp_lookN rfl _ _ rfl nb N i rfl rfl hnp hi kk hkk true hh ?_) | go_in)
  go_ret2
  exact PmQ.old hup (Bl.refl _)
theorem plMakeB (h : PlR w pp nb bb Q S n) (i W H : Int) (hi : I64 i) (hf : (plF i S).isSome = false) (hb : badW W H) : Calls Try.prog 12 #[.pointer (some ⟨pp, 0, none⟩), .int .i64 i, .int .i64 W, .int .i64 H] w (PmQ w pp nb bb Q S (n + 1) (.tuple #[.int .i64 (-1), .int .i64 1])) := by
  have hup := h.up (Nat.le_succ n)
  obtain ⟨⟨N, M, hs, hN, hM⟩, _⟩ := h
  have c1 := hs.hd.cell 1
  have hnp := hs.np
  have hh := hN.has i
  rw [hf] at hh
  have cN := newN W H w hb
  obtain ⟨kk, hkk⟩ : ∃ kk, kk = kindL N i := ⟨_, rfl⟩
  replace hkk := hkk.symm
  clear hs hf hb
  go_enter Try.func12, Try.ntmps12
  go_wp2_with (at_lookup; refine wp_lookN rfl _ _ rfl nb N i rfl rfl hnp hi kk hkk false hh ?_)
  refine cN.mono ?_
  rintro e w2 ⟨rfl, g2⟩
  go_wp2
  go_ret2
  exact PmQ.old (hup.bl g2.bl) g2.bl
theorem plMakeN (h : PlR w pp nb bb Q S n) (hn : n ≤ 1000) (i : Int) (W H : Nat) (hi : I64 i) (hf : plF i S = none) (w1 : 1 ≤ W) (w2 : W ≤ 256) (h1 : 1 ≤ H) (h2 : H ≤ 256) : Calls Try.prog 12 #[.pointer (some ⟨pp, 0, none⟩), .int .i64 i, .int .i64 (W : Int), .int .i64 (H : Int)] w (PmQ w pp nb bb Q (S ++ [newB i W H]) (n + 1) (.tuple #[.int .i64 (S.length : Int), .int .i64 0])) := by
  have hok := h.ok.push (s := newB i W H) rfl hi ⟨by simp [newB]; omega, by simp [newB]; omega⟩ ⟨by simp [newB]; omega, by simp [newB]; omega⟩ (by simp [newB])
  have ok := h.ok
  obtain ⟨⟨N, M, hs, hN, hM⟩, _⟩ := h
  have hh := hN.has i
  rw [hf] at hh
  have cN := new1 W H w w1 w2 h1 h2
  obtain ⟨kk, hkk⟩ : ∃ kk, kk = kindL N i := ⟨_, rfl⟩
  replace hkk := hkk.symm
  have hfew := ok.few
  have hNl := hN.len
  have hMl := hM.len
  have hhM : hasL M (S.length : Int) = false := hM.out (.inr (Int.le_refl _))
  have hputN := put_dmap (L := N) hh (S.length : Int)
  have hputM := fun b : Int => put_dmap (L := M) hhM b
  have hN2 : NmQ (insL (i, (S.length : Int)) N) (S ++ [newB i W H]) := hN.push (x := newB i W H) rfl hf
  have hM2 := fun (q : Pq) => hM.push (x := newB i W H) (bk' := bkOf (Q ++ [q])) (by simp [Bf.th, newB]) (fun k hk => by unfold bkOf; rw [List.getD_eq_getElem?_getD, List.getD_eq_getElem?_getD, List.getElem?_append_left (by rw [hs.ln]; exact hk)])
  have hbk : ∀ q : Pq, bkOf (Q ++ [q]) S.length = q.bk := fun q => bkOf_at (by rw [← hs.ln]; simp)
  have hkS : I64 (S.length : Int) := by unfold I64; omega
  have p1 : wrap64 ((S.length : Int) + 1) = ((S.length + 1 : Nat) : Int) := by rw [Int.natCast_add]; exact w64 (by omega) (by omega)
  have p2 : IntKind.i64.wrap ((S.length : Int) + 1) = ((S.length + 1 : Nat) : Int) := by rw [Int.natCast_add]; exact IntWalk.i64_in _ (by omega)
  have hnp := hs.np
  have c1 := hs.hd.cell 1
  have kS := Lib.hid (fun (V : World) (g : Gr w V) => hs.bl g.bl)
  have P0 := Lib.hid (fun (V : World) (g : Kx (fun k => k = pp ∨ k = nb ∨ k = bb) w V) (q : Pq) (hp : At V pp #[.int .i64 ((S.length + 1 : Nat) : Int), .map (some nb), .map (some bb)] 66) (e1 : Mp V nb (insL (i, (S.length : Int)) N)) (e2 : Pm V bb (insL ((S.length : Int), (q.bk : Int)) M))
      (e3 : At V q.bk #[.int .i64 i, .pointer (some ⟨q.pm, 0, none⟩), .int .i64 0] 87) (e4 : Img V q.pm q.pc W H (List.replicate (W * H) 0)) (e5 : w.heap.size ≤ q.bk) (e6 : w.heap.size ≤ q.pc) =>
    (show PmQ w pp nb bb Q (S ++ [newB i W H]) (n + 1) (.tuple #[.int .i64 (S.length : Int), .int .i64 0]) (.returned (.tuple #[.int .i64 (S.length : Int), .int .i64 0])) V from
      ⟨Q ++ [q], rfl, ⟨⟨_, _, hs.push (s := newB i W H) g hp e1 e2 e3 e4 e5 e6, hN2, by have := hM2 q; rw [hbk q] at this; exact this⟩, hok⟩, ⟨g.os, g.tape, g.output, g.size, fun k hk hx => g.block k hk (by rintro (rfl | rfl | rfl); exact hx (.inl rfl); exact hx (.inr (.inl rfl)); exact hx (.inr (.inr (.inl rfl))))⟩,
        fun j hj => by
          rcases hj with rfl | rfl | rfl | ⟨r, hr, hj⟩
          · exact .inl (.inl rfl)
          · exact .inl (.inr (.inl rfl))
          · exact .inl (.inr (.inr (.inl rfl)))
          · rcases List.mem_append.1 hr with hr | hr
            · exact .inl (.inr (.inr (.inr ⟨r, hr, hj⟩)))
            · rw [List.mem_singleton] at hr; subst hr
              rcases hj with rfl | rfl
              · exact .inr e5
              · exact .inr e6⟩))
  clear hs hf hok hN hM hN2 hM2 hbk w1 w2 h1 h2
  generalize hsl : S.length = sl at *
  generalize newB i W H = nB at *
  replace hsl := Lib.hid hsl
  generalize hs1 : sl + 1 = s1 at *
  replace hs1 := Lib.hid hs1
  replace hfew := Lib.hid hfew
  replace hNl := Lib.hid hNl
  replace hMl := Lib.hid hMl
  go_enter Try.func12, Try.ntmps12
  go_wp2_with (at_lookup; refine wp_lookN rfl _ _ rfl nb N i rfl rfl hnp hi kk hkk false hh ?_)
  refine cN.mono ?_
  rintro e v1 ⟨pm, pc, rfl, I1, hpm, hpc, g1⟩
  have S1 := kS.out v1 g1
  have d0 := S1.hd.cell 0
  have d1 := S1.hd.cell 1
  have f0 := S1.hd.free 0
  rw [hsl.out] at d0
  have gA : v1.grownBy (v1.setCell ⟨pp, 0, none⟩ (.int .i64 (s1 : Int))) (some pp) := By.set (p := ⟨pp, 0, none⟩) (By.refl v1 _) _
  have hA : At (v1.setCell ⟨pp, 0, none⟩ (.int .i64 (s1 : Int))) pp #[.int .i64 (s1 : Int), .map (some nb), .map (some bb)] 66 := by simpa using S1.hd.put 0 (.int .i64 (s1 : Int))
  have nA : Mp (v1.setCell ⟨pp, 0, none⟩ (.int .i64 (s1 : Int))) nb N := S1.np.by gA (fun e => S1.np.ne S1.hd (Option.some.inj e).symm)
  have bA : Pm (v1.setCell ⟨pp, 0, none⟩ (.int .i64 (s1 : Int))) bb M := S1.bp.by gA (fun e => S1.bp.ne S1.hd (Option.some.inj e).symm)
  have iA : Img (v1.setCell ⟨pp, 0, none⟩ (.int .i64 (s1 : Int))) pm pc W H (List.replicate (W * H) 0) := I1.kept gA (fun e => (I1.hd.neP S1.hd (by decide)) (Option.some.inj e)) (fun e => (I1.cs.neP S1.hd (by decide)) (Option.some.inj e))
  have hnbb := S1.nbb
  have hownN := nA
  unfold Mp at hownN
  have hNm : N.length < maxLen := by have := hNl.out; have := hfew.out; have := hsl.out; unfold maxLen; omega
  have hMm : M.length < maxLen := by have := hMl.out; have := hfew.out; have := hsl.out; unfold maxLen; omega
  clear cN kS hnp c1 hh
  go_wp2_with (first
    | (at_mapUpdate; refine wpList_mapUpdate_in _ rfl _ _ _ 63 rfl 3 3 keyInt Try.underlying63 _ nb _ _ rfl hownN hNm _ _ _ rfl rfl (keyOf_int_mk Try.underlying3 (wf64 hi)) _ [] (plainElem_int Try.underlying3 (wf64 hkS)) ?_; intro v2 hown2 hturn2; rw [hputN] at hown2; have A2 := hA.grown hturn2.grown (fun e => nA.ne hA (Option.some.inj e)); have d22 := A2.cell 2)
    | (at_mapUpdate; refine wpList_mapUpdate_in _ rfl _ _ _ 64 rfl 3 85 keyInt Try.underlying64 pElem bb _ _ rfl ((bA.by hturn2.grown (fun e => hnbb (Option.some.inj e).symm)).bl ((Bl.refl _).alloc _)) hMm _ _ _ rfl rfl (keyOf_int_mk Try.underlying3 (wf64 hkS)) _ [] rfl ?_; intro v3 hown3 hturn3; rw [hputM] at hown3)
    | go_in)
  go_ret2
  have B2 := (bA.by hturn2.grown (fun e => hnbb (Option.some.inj e).symm)).bl ((Bl.refl v2).alloc (.cells #[.int .i64 i, .pointer (some ⟨pm, 0, none⟩), .int .i64 0] 87))
  have A3 := A2.alloc (.cells #[.int .i64 i, .pointer (some ⟨pm, 0, none⟩), .int .i64 0] 87)
  have N3 := (Mp.of hown2).bl ((Bl.refl v2).alloc (.cells #[.int .i64 i, .pointer (some ⟨pm, 0, none⟩), .int .i64 0] 87))
  have C3 := At.new v2 #[.int .i64 i, .pointer (some ⟨pm, 0, none⟩), .int .i64 0] 87
  have I2 := (iA.kept hturn2.grown (fun e => nA.ne iA.hd (Option.some.inj e)) (fun e => nA.ne iA.cs (Option.some.inj e))).bl ((Bl.refl v2).alloc (.cells #[.int .i64 i, .pointer (some ⟨pm, 0, none⟩), .int .i64 0] 87))
  have hg1 := g1.size
  have hg2 := hturn2.grown.size
  have hg : w.heap.size ≤ v2.heap.size := by simp at hg2; omega
  exact P0.out v3 (((((Kx.bl g1.bl).then (Kx.by gA (.inl rfl))).then (Kx.by hturn2.grown (.inr (.inl rfl)))).gr ((Bl.refl v2).alloc _)).then (Kx.by hturn3.grown (.inr (.inr rfl)))) ⟨v2.heap.size, pm, pc⟩
    (A3.grown hturn3.grown (fun e => B2.ne A3 (Option.some.inj e))) (N3.by hturn3.grown (fun e => hnbb (Option.some.inj e))) (Pm.of hown3) (C3.grown hturn3.grown (fun e => B2.ne C3 (Option.some.inj e)))
    (I2.kept hturn3.grown (fun e => B2.ne I2.hd (Option.some.inj e)) (fun e => B2.ne I2.cs (Option.some.inj e))) hg hpc
theorem plMake1 (h : PlR w pp nb bb Q S n) (hn : n ≤ 1000) (i W H : Int) (hi : I64 i) : Calls Try.prog 12 #[.pointer (some ⟨pp, 0, none⟩), .int .i64 i, .int .i64 W, .int .i64 H] w (PmQ w pp nb bb Q (mkS S i W H) (n + 1) (.tuple #[.int .i64 (mkN S i W H), .int .i64 (mkE S i W H)])) := by
  unfold mkS mkN mkE
  cases hf : plF i S with
  | some k =>
    simp only [Option.isSome_some, if_true]
    exact plMake0 h i W H hi (by rw [hf]; rfl)
  | none =>
    simp only [Option.isSome_none, Bool.false_eq_true, if_false]
    by_cases hb : badW W H
    · simp only [if_pos hb]
      exact plMakeB h i W H hi (by rw [hf]; rfl) hb
    · simp only [if_neg hb]
      unfold badW at hb
      obtain ⟨W', rfl⟩ : ∃ W' : Nat, W = (W' : Int) := ⟨W.toNat, by omega⟩
      obtain ⟨H', rfl⟩ : ∃ H' : Nat, H = (H' : Int) := ⟨H.toNat, by omega⟩
      exact plMakeN h hn i W' H' hi hf (by omega) (by omega) (by omega) (by omega)
end

/-- The step over a map of pointers. -/
theorem wp_nextP {P : Program} (w : World) {ops : Array Oper} {rest : List Oper} {o : Oper} {a : Act} {Q : Exit → Act → World → Prop} (hg : o.guard = none) (it : Operand) (hop : o.op = Op.next it false) (k : TypeId) (K : Keyed P k) (hk : P.underlying k = some (.int .i64)) (b r n : Nat) (D : DataW Unit) (left : Lit → Bool) (cnt : Nat)
    (hit : a.eval it = .pointer (some ⟨r, 0, none⟩)) (h : w.ranges P k pElem b r n D left cnt)
    (hDone : cnt = 0 → (∀ kl, left kl = false) → wpList P ops Q rest (a.put o.dst (.tuple #[.bool false])) w)
    (hMore : ∀ (x : Int) (c : Option Nat) (y : DataW Unit) (w' : World) (cnt' : Nat), left (.int .i64 x) = true → (∀ zd, D.atKey (.int .i64 x) zd = y) → w'.ranges P k pElem b r n D (fun z => left z && !z.sameKey (.int .i64 x)) cnt' → cnt' < cnt →
      w.grownBy w' (some r) → w'.heap.size = w.heap.size → (Instr.entry (.pointer (some ⟨r, 0, none⟩))).run P w' = .ok (.tuple #[.int .i64 x, .pointer (c.map fun g => ⟨g, 0, none⟩)]) w' → wpList P ops Q rest (a.put o.dst (.tuple #[.bool true, .int .i64 x, .pointer (c.map fun g => ⟨g, 0, none⟩)])) w') :
    wpList P ops Q (o :: rest) a w :=
  wpList_next_ranges w hg it hop k K pElem (Value.int .i64) (fun c : Option Nat => .pointer (c.map fun g => ⟨g, 0, none⟩)) (fun key kl hkey => by obtain ⟨x, rfl, _⟩ := Maps.keyOf_int_inv hk hkey; exact ⟨x, rfl⟩)
    (fun v y hv => by
      rcases pElem_inv hv with ⟨c, rfl, _⟩ | ⟨rfl, _⟩
      · exact ⟨some c, rfl⟩
      · exact ⟨none, rfl⟩)
    b r n D left cnt hit h hDone (fun x c kl y w' cnt' hkey hlk hv hat hrg hlt hgr hsz hen => by
      obtain ⟨x', ex, rfl, hwx⟩ := Maps.keyOf_int_inv hk hkey
      cases ex
      exact hMore x c y.1 w' cnt' hlk hat hrg hlt hgr hsz hen)

set_option maxRecDepth 100000 in
theorem plThere1 {w : World} {pp nb bb n : Nat} {Q : List Pq} {S : List Bf} (h : PlR w pp nb bb Q S n) (hn : n ≤ 1000) : Calls Try.prog 19 #[.pointer (some ⟨pp, 0, none⟩)] w fun e w' =>
    ∃ A c, e = .returned (.slice A (thL S).length c) ∧ OwInt w' w.heap.size A c (thL S) ∧ Bl w w' := by
  have hfew := h.ok.few
  obtain ⟨⟨N, M, hs, hN, hM⟩, _⟩ := h
  have c2 := hs.hd.cell 2
  have hown := hs.bp
  have hbl := hs.bp.lt
  have hlen : M.length ≤ 1000 := by have := hM.len; omega
  unfold Pm at hown
  have hsz := size_dmap M
  obtain ⟨r, hr⟩ : ∃ r, r = w.heap.size := ⟨_, rfl⟩
  clear hs hN hfew
  go_enter Try.func19, Try.ntmps19
  go_wp2_with (at_range; refine wpList_range_own _ rfl _ 64 rfl 3 85 keyInt Try.underlying64 pElem bb _ _ rfl hown ?_; intro w0 hrg0 hg0 hs0)
  rw [← hr] at hrg0
  replace hr := Lib.hid hr
  replace hs0 := Lib.hid hs0
  go_frame
  go_loopw [3, 4] (fun v _ wr => ∃ (left : Lit → Bool) (cnt : Nat) (A : Option Addr) (c : Nat) (ks : List Int), wr.ranges Try.prog 3 pElem bb r M.length (dmap M) left cnt ∧ v = .slice A ks.length c ∧ OwInt wr (r + 1) A c ks ∧ ColT M left ks ∧ ks.length + cnt ≤ M.length ∧ Bl w wr ∧ r + 1 ≤ wr.heap.size)
    (fun _ _ wr => wr.rangeLeft bb r)
  case atStart => exact ⟨_, _, none, 0, [], by rw [hr.out]; rw [hr.out] at hrg0; exact hrg0, rfl, Shp.Ow.nil _ _, ColT.start M, by simp [hsz], By.none hg0, by rw [hs0.out, hr.out]; exact Nat.le_refl _⟩
  case round =>
    obtain ⟨left, cnt, A, c, ks, hrg, rfl, own, hC, hcs, G, hrs⟩ := hrel
    go_wp2_with (at_next; refine wp_nextP _ rfl _ rfl 3 keyInt Try.underlying3 bb r _ _ _ _ (by have := hr.out; subst this; rfl) hrg ?_ ?_)
    · intro hc0 hl0
      have hsorted : sortI ks = thL S := hC.sorted hl0 hM
      have hln : ks.length = (thL S).length := by rw [← hsorted, sortI_len]
      have cs := isort1 A c ks wr (r + 1) own (by omega) hrs
      rw [hsorted] at cs
      replace hsorted := Lib.hid hsorted
      replace hln := Lib.hid hln
      have hro := Lib.hid hr.out
      clear hlen hcs
      go_wp2_with (go_at_call 35; refine cs.mono ?_; rintro e w3 ⟨rfl, own3, g3⟩)
      go_ret
      rw [hln.out]
      exact ⟨A, c, rfl, own3.low (by rw [hro.out]; omega), RowKit.Below.trans G (RowKit.Below.mono g3 (by rw [hro.out]; omega))⟩
    · intro x c' y w2 cnt2 hlx hat hrg2 hlt hg2 hs2 hen
      have hrl := hr.out
      have own2 := own.by hg2 (by rcases own.lies with h | ⟨g, rfl, h1, _⟩; exact .inl h; exact .inr (by simp; omega))
      have G2 : Bl w w2 := G.grown hg2 (fun j hj => by cases hj; rw [hrl]; exact Nat.le_refl _)
      have hrs2 : r + 1 ≤ w2.heap.size := Nat.le_trans hrs hg2.size
      clear hs2
      rw [hrl] at hen
      replace hrl := Lib.hid hrl
      replace hlen := Lib.hid hlen
      replace hcs := Lib.hid hcs
      go_wp2_with (first | (at_builtin; refine Shp.wp_app (S := shI) Try.underlying51 infoInt rfl (by decide) rfl (.tmp 14) (.tmp 16) rfl A c ks rfl (r + 1) (own2.bl ((Bl.refl _).alloc _)) (some ⟨w2.heap.size, 0, none⟩) 1 [x] rfl (by simp) (Shp.Rd.new1 (At.new _ _ _) rfl) (by have := hlen.out; have := hcs.out; simp; omega) (by simp; omega) ?_; intro A3 c3 w3 own3 ap3 lies3) | go_in)
      have hne3 : ∀ j, A.map (·.block) = some j → r + 1 ≤ j := by
        intro j hj
        rcases own2.lies with h | ⟨g, rfl, h1, _⟩
        · subst h; cases hj
        · cases hj; exact h1
      have hbw := hbl
      go_roundw
      case rel =>
        refine ⟨_, cnt2, A3, c3, ks ++ [x], (hrg2.alloc _).kept ap3 (fun e => ?_) (fun e => ?_), by simp, own3, hC.step hlx hat, by have := hcs.out; simp; omega, (G2.alloc _).grown ap3 (fun j hj => ?_), ?_⟩
        · have := hne3 bb e.symm; rw [hrl.out] at this; omega
        · have := hne3 r e.symm; omega
        · have := hne3 j hj; rw [hrl.out] at this; omega
        · have := ap3.size; simp at this; omega
      case measure => rw [World.ranges.left_eq ((hrg2.alloc _).kept ap3 (fun e => by have := hne3 bb e.symm; rw [hrl.out] at this; omega) (fun e => by have := hne3 r e.symm; omega)), hrg.left_eq]; exact hlt

end Go.Proofs.Ytkaaagggbclofaa
