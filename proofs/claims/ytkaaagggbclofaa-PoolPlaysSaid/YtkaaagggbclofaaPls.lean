/-
  What is proved: the statements' comparison of a pool with the document's comes out true where both are one. Conditions: at most 1000 buffers, none held more than 1000 times.
-/
import Derived.Test.YtkaaagggbclofaaPln
import Derived.Test.YtkaaagggbclofaaZz4
namespace Go.Proofs.Ytkaaagggbclofaa
open Go.ChangeShapes Go.WideShapes Go.ChangeAt Go.RowKit Go.Joins Go.Sort Go.Deep Go.Maps

/-- How many of the first n are there. -/
def cntT (S : List Bf) (n : Nat) : Nat := ((List.range n).filter fun k => (S.getD k default).th).length
theorem cntT_zero (S : List Bf) : cntT S 0 = 0 := rfl
theorem cntT_succ (S : List Bf) (n : Nat) : cntT S (n + 1) = cntT S n + if (S.getD n default).th = true then 1 else 0 := by
  unfold cntT
  rw [List.range_succ, List.filter_append, List.length_append]
  congr 1
  cases h : (S.getD n default).th
  · rw [List.filter_cons_of_neg (by rw [h]; simp)]; rfl
  · rw [List.filter_cons_of_pos (by rw [h])]; rfl
theorem cntT_all (S : List Bf) : cntT S S.length = (thL S).length := by unfold cntT thL; rw [List.length_map]
theorem getD_out {S : List Bf} {n : Nat} (h : S.length ≤ n) : (S.getD n default).th = false := by
  rw [List.getD_eq_getElem?_getD, List.getElem?_eq_none h]; rfl
theorem cntT_end (S : List Bf) : cntT S (S.length + 1) = (thL S).length := by rw [cntT_succ, getD_out (Nat.le_refl _), cntT_all]; simp
theorem thL_len (S : List Bf) : (thL S).length ≤ S.length := by
  unfold thL
  rw [List.length_map]
  have := List.length_filter_le (fun k => (S.getD k default).th) (List.range S.length)
  rwa [List.length_range] at this
theorem cntT_at {S : List Bf} {n : Nat} {s : Bf} (h : S[n]? = some s) (ht : s.th = true) : (thL S)[cntT S n]? = some (n : Int) := by
  have hl := (List.getElem?_eq_some_iff.1 h).1
  have hs : (S.getD n default).th = true := by rw [getD_at h]; exact ht
  unfold cntT thL
  obtain ⟨m, hm⟩ : ∃ m, S.length = n + (m + 1) := ⟨S.length - n - 1, by omega⟩
  rw [hm, List.range_add, List.filter_append, List.map_append, List.range_succ_eq_map, List.map_cons, List.filter_cons_of_pos (by simpa using hs), List.map_cons]
  rw [List.getElem?_append_right (by simp)]
  simp
theorem cntT_none {S : List Bf} {a : Nat} (h : atS S ((a : Int) - 1) = none) : cntT S (a + 1 - 1) = cntT S (a - 1) := by
  cases a with
  | zero => rfl
  | succ n =>
    rw [show ((n + 1 : Nat) : Int) - 1 = (n : Int) by omega] at h
    unfold atS at h
    rw [Int.toNat_natCast] at h
    have hs : (S.getD n default).th = false := by
      cases hs : (S.getD n default).th
      · rfl
      · rw [if_pos ⟨by omega, hs⟩] at h; cases h
    show cntT S (n + 1) = cntT S n
    rw [cntT_succ, hs]; simp

set_option maxRecDepth 100000 in
set_option maxHeartbeats 4000000 in
theorem pllike1 {w : World} {pp nb bb j c : Nat} {Q : List Pq} {S : List Bf} {A : Option Addr} {D : List Db} (h : PlR w pp nb bb Q S j) (hd : DcR w A c D S) (hj : j ≤ 1000) :
    Calls Try.prog 9 #[.pointer (some ⟨pp, 0, none⟩), .agg #[.slice A D.length c]] w (fun e w' => e = .returned (.bool true) ∧ Bl w w') := by
  have hDS := hd.len
  have hDl : D.length ≤ 1000 := by have := h.ok.few; omega
  have g0 := (Gr.refl w).alloc (.cells #[.slice A D.length c] 27)
  have P0 := At.new w #[.slice A D.length c] 27
  have cT := plThere1 (h.bl g0.bl) hj
  have hend := cntT_end S
  rw [← hDS] at hend
  replace hDS := Lib.hid hDS
  have hall := Lib.hid (fun n s (h1 : S[n]? = some s) (h2 : s.th = true) => cntT_at h1 h2)
  have htn : (thL S).length ≤ 1000 := by have := thL_len S; have := h.ok.few; omega
  generalize hthn : (thL S).length = tn at *
  replace hthn := Lib.hid hthn
  replace hend := Lib.hid hend
  go_enter Try.func9, Try.ntmps9
  go_wp2_with fail
  refine cT.mono ?_
  rintro e V0 ⟨A1, c1, rfl, own, g1⟩
  have hP := h.bl (g0.bl.trans g1)
  have hD := hd.bl (g0.bl.trans g1)
  have P1 := P0.bl g1
  have G1 := g0.bl.trans g1
  have hrd := own.rd
  clear cT h hd g0 P0 g1 own
  go_wp2_with fail
  go_loopw [6, 7] (fun kv iv wr => ∃ a : Nat, a ≤ D.length + 2 ∧ iv = .int .i64 ((a : Int) - 1) ∧ kv = .int .i64 (cntT S (a - 1) : Nat) ∧ Gr V0 wr) (fun kv iv _ => D.length + 2 - (intOf iv + 1).toNat)
  case atStart => exact ⟨0, by omega, rfl, rfl, Gr.refl _⟩
  case round =>
    obtain ⟨a, ha, rfl, rfl, Gk⟩ := hrel
    have p0 := (P1.gr Gk).cell 0
    by_cases hlt : a < D.length + 2
    · have hcn := cntT_none (S := S) (a := a)
      obtain ⟨x, hx⟩ : ∃ x : Int, x = (a : Int) - 1 := ⟨_, rfl⟩
      have hxi : I64 x := by unfold I64; omega
      have q1 : decide (x ≤ (D.length : Int)) = true := by simp; omega
      have w1 : wrap64 (x + 1) = ((a + 1 : Nat) : Int) - 1 := by rw [hx]; unfold wrap64; omega
      have cTh := rThere1 (c := c) (hD.rd.bl Gk.bl) hDl x hxi
      rw [hD.is] at cTh
      have cHe := plHeld1 (hP.bl Gk.bl)
      rw [← hx] at hcn ⊢
      obtain ⟨kk, hkk⟩ : ∃ kk, kk = cntT S (a - 1) := ⟨_, rfl⟩
      rw [← hkk] at hcn ⊢
      cases hat : atS S x with
      | none =>
        have hc2 := hcn hat
        rw [hat] at cTh
        have cIm := plImg0 (hP.bl Gk.bl) x hxi hat
        have cH2 := fun (V : World) (g : Gr wr V) => plHeld1 ((hP.bl Gk.bl).bl g.bl) x hxi
        unfold hdN at cH2
        simp only [hat] at cH2
        have cI2 := fun (V : World) (g : Gr wr V) => plImg0 ((hP.bl Gk.bl).bl g.bl) x hxi hat
        replace hx := Lib.hid hx
        replace hkk := Lib.hid hkk
        replace hc2 := Lib.hid hc2
        clear hcn cHe cIm hat
        go_wp2_with fail
        refine cTh.mono ?_
        rintro e v1 ⟨rfl, k1⟩
        go_wp2_with fail
        refine (cI2 _ k1).mono ?_
        rintro e v2 ⟨rfl, k2⟩
        go_wp2_with fail
        refine (cH2 _ (k1.trans k2)).mono ?_
        rintro e v3 ⟨rfl, k3⟩
        go_wp2
        refine ⟨⟨a + 1, by omega, by rw [w1], by rw [hc2.out], ((Gk.trans k1).trans k2).trans k3⟩, ?_⟩
        have := hx.out
        rw [w1]
        simp [intOf]
        omega
      | some n =>
        rw [hat] at cTh
        obtain ⟨s, hxn, hk, ht, _⟩ := atS_some hat
        subst hxn
        obtain rfl : a = n + 1 := by omega
        have hk1 := hall.out n s hk ht
        have hkn : kk = cntT S n := hkk
        rw [← hkn] at hk1
        have hkt : kk < tn := by rw [← hthn.out]; exact (List.getElem?_eq_some_iff.1 hk1).1
        obtain ⟨b1, o1, rfl, hrow1⟩ := hrd.opened (by rw [hthn.out]; omega)
        have hlk := Lib.hid (fun (V : World) (g : Gr V0 V) => int_at (hrow1.bl g.bl) hk1)
        obtain ⟨d, hdn, rfl⟩ := hD.at hk
        have hnl : n < D.length := (List.getElem?_eq_some_iff.1 hdn).1
        obtain ⟨b, off, rfl, hrow⟩ := hD.rd.opened (by omega)
        have hE := Lib.hid (fun (V : World) (g : Gr V0 V) => db_at (hrow.bl g.bl) hdn)
        have hRw := Lib.hid (fun (V : World) (g : Gr V0 V) => (hD.rows d (List.mem_of_getElem? hdn)).gr g)
        have cIm := Lib.hid (fun (V : World) (g : Gr V0 V) => plImg1 (hP.bl g.bl) n d.s hxi hk ht)
        have cH2 := Lib.hid (fun (V : World) (g : Gr V0 V) => plHeld1 (hP.bl g.bl) (n : Int) hxi)
        unfold hdN at cH2
        simp only [hat, getD_at hk] at cH2
        have hc2 : cntT S (n + 1) = kk + 1 := by rw [cntT_succ, getD_at hk, ht, ← hkn]; simp
        have q2 : decide (tn ≤ kk) = false := by simp; omega
        obtain ⟨⟨id, nm, sh, W, H, L⟩, rb, rc⟩ := d
        simp only at hE cIm cH2 hRw ⊢
        have P1' := P1.gr Gk
        have w2 : wrap64 ((kk : Int) + 1) = ((kk + 1 : Nat) : Int) := by rw [Int.natCast_add]; unfold wrap64; omega
        replace hx := Lib.hid hx
        replace hkk := Lib.hid hkk
        replace hc2 := Lib.hid hc2
        replace hkn := Lib.hid hkn
        replace hkt := Lib.hid hkt
        clear hcn cHe hat hk hk1 hdn hrow hrow1 ht hrd
        go_wp2_with fail
        refine cTh.mono ?_
        rintro e v1 ⟨rfl, k1⟩
        obtain ⟨qm, qc, hI, cI1⟩ := cIm.out v1 (Gk.trans k1)
        go_wp2_with fail
        refine cI1.mono ?_
        rintro e v2 ⟨rfl, k2⟩
        have G2 := (Gk.trans k1).trans k2
        have I2 := hI.gr k2
        have P2 := (P1'.gr k1).gr k2
        clear cI1 cTh cIm hI p0
        have ch := fun x os => cH2.out _ ((G2.drewN x).grow os)
        have cb := fun x os => box1 _ (I2.cellsG x os)
        have m0 := fun x os => P2.cells x os 0
        have e2 := fun x os => (hE.out _ ((G2.drewN x).grow os)).2.2.1
        have e3 := fun x os => (hE.out _ ((G2.drewN x).grow os)).2.2.2.1
        have e4 := fun x os => (hE.out _ ((G2.drewN x).grow os)).2.2.2.2.1
        have e5 := fun x os => (hE.out _ ((G2.drewN x).grow os)).2.2.2.2.2
        go_wp2
        refine wp_region_quiet_grown (by kernel_rfl) (by kernel_rfl) ?_
        repeat (first | go_big_quiet_step (first | (go_at_call 16; exact Calls.grown (ch _ _)) | (go_at_call 30; exact Calls.grown (cb _ _)) | (go_at_call 31; exact Calls.grown (refBox1 _))) | quiet_step (first | (go_at_call 16; exact Calls.grown (ch _ _)) | (go_at_call 30; exact Calls.grown (cb _ _)) | (go_at_call 31; exact Calls.grown (refBox1 _))))
        refine wpQuiet_nil ?_
        intro v3 g3
        replace g3 : Gr _ v3 := g3
        have G3 := G2.trans g3
        have I3 := I2.gr g3
        have P3 := P2.gr g3
        clear m0 e2 e3 e4 e5 ch cb
        have l0 := hlk.out v3 G3
        obtain ⟨y0, y1, y2, y3, y4, y5⟩ := hE.out v3 G3
        have p3 := P3.cell 0
        have kt : kk < tn := hkt.out
        go_wp2_with fail
        have hR3 := hRw.out v3 G3
        have M4 := At.new v3 #[.int .i64 (W : Int), .int .i64 (H : Int), .slice (some ⟨rb, 0, none⟩) L.length rc] 78
        have G4 := G3.alloc (.cells #[.int .i64 (W : Int), .int .i64 (H : Int), .slice (some ⟨rb, 0, none⟩) L.length rc] 78)
        have I4 := I3.bl ((Bl.refl v3).alloc (.cells #[.int .i64 (W : Int), .int .i64 (H : Int), .slice (some ⟨rb, 0, none⟩) L.length rc] 78))
        have R4 := hR3.bl ((Bl.refl v3).alloc (.cells #[.int .i64 (W : Int), .int .i64 (H : Int), .slice (some ⟨rb, 0, none⟩) L.length rc] 78))
        have w1' := I4.w1
        have hle := area_le I4.w2 I4.h2
        have hLL := Lib.hid I4.len
        rw [← I4.len] at hle
        generalize hln : L.length = ln at *
        generalize hW4 : v3.alloc (.cells #[.int .i64 (W : Int), .int .i64 (H : Int), .slice (some ⟨rb, 0, none⟩) ln rc] 78) = W4 at *
        generalize v3.heap.size = mb at *
        replace hW4 := Lib.hid hW4
        replace hln := Lib.hid hln
        clear l0 y0 y1 y2 y3 y4 y5 p3 hR3 G3 I3 P3 g3 G2 P2 I2 k1 k2 hE hlk P1' hRw cH2
        go_loopw [12] (fun jv wr2 => ∃ q : Nat, q ≤ ln ∧ jv = .int .i64 (q : Int) ∧ Gr W4 wr2) (fun jv _ => ln - (intOf jv).toNat)
        case atStart => exact ⟨0, Nat.zero_le _, rfl, Gr.refl _⟩
        case round =>
          obtain ⟨q, hq, rfl, Gq⟩ := hrel
          have Bk := M4.gr Gq
          have b2 : wr.cell? ⟨mb, 2, none⟩ = some (.slice (some ⟨rb, 0, none⟩) ln rc) := Bk.cell 2
          by_cases hlt2 : q < ln
          · obtain ⟨d1, d2, d3⟩ := div_of (k := q) (H := H) w1' (by rw [← hLL.out]; exact hlt2)
            obtain ⟨i1, j1, hi, hj1, x1, x2, x3, x4, x5, x6, x7, x8⟩ := rem_quo q W w1' (by omega)
            rw [← hi, ← hj1] at d3
            rw [← hi] at d1
            rw [← hj1] at d2
            clear hi hj1
            obtain ⟨cx, hcx⟩ : ∃ cx, L[q]? = some cx := ⟨L[q]'(by rw [hln.out]; exact hlt2), List.getElem?_eq_getElem _⟩
            have Ik := I4.gr Gq
            have ca := fun q os => at1X _ ((Ik.gr (((Gr.refl wr).drewN q).grow os)).x) i1 j1 d1 d2 cx (by rw [d3]; exact hcx)
            have c1' : ∀ wr', Gr wr wr' → wr'.cell? ⟨rb, q, none⟩ = some (.int .u32 cx) := fun wr' g => by have := (R4.gr (Gq.trans g)) _ _ hcx; rwa [Nat.zero_add] at this
            have m0 := fun q os => Bk.cells q os 0
            have m1 := fun q os => Bk.cells q os 1
            have m2 := fun q os => Bk.cells q os 2
            simp at m0 m1 m2
            clear hcx d3
            go_wp2
            refine wp_region_quiet_grown (by kernel_rfl) (by kernel_rfl) ?_
            repeat (first | go_big_quiet_step ((go_at_call 20; exact Calls.grown (ca _ _))) | quiet_step ((go_at_call 20; exact Calls.grown (ca _ _))))
            refine wpQuiet_nil ?_
            intro W3 g9
            replace g9 : Gr _ W3 := g9
            have e1 := c1' _ g9
            have e2 : W3.cell? ⟨mb, 2, none⟩ = some (.slice (some ⟨rb, 0, none⟩) ln rc) := (Bk.gr g9).cell 2
            clear m0 m1 m2 c1' b2
            go_wp2
            go_roundw
            case rel => exact ⟨q + 1, by omega, by simp, Gq.trans g9⟩
            case measure => simp [intOf]; omega
          · obtain rfl : q = ln := by omega
            go_wp2
            refine ⟨⟨n + 2, by omega, by congr 1; omega, ?_, G4.trans Gq⟩, by simp [intOf]; omega⟩
            rw [show n + 2 - 1 = n + 1 by omega, hc2.out]
            rfl
    · have haD : a = D.length + 2 := by omega
      have q1 : decide ((a : Int) - 1 ≤ (D.length : Int)) = false := by simp; omega
      have hk : cntT S (a - 1) = tn := by rw [haD]; exact hend.out
      rw [hk]
      replace haD := Lib.hid haD
      clear hk hlt
      go_wp2
      go_ret
      exact ⟨rfl, G1.gr Gk⟩

end Go.Proofs.Ytkaaagggbclofaa
