/-
  What is proved: the statement EventReads walked: the events of bytes, or the error, are the document's, for any events, any byte that is another one, any bytes behind. Conditions: bounds; the table of shapes reads as its initialiser lays it.
-/
import Derived.Test.YthkbenhlhldglaaDoorDr
import Derived.Test.YthkbenhlhldglaaDoorDh
import Derived.Test.YthkbenhlhldglaaDoorDk
import Derived.Test.YthkbenhlhldglaaDoorOcf
import Derived.Deep.CutBlock
import Derived.Deep.DeepCutAuto
namespace Go.Proofs.YthkbenhlhldglaaDoor
open Go.RowKit Go.Sort

/-- A byte is stored into a row that the call owns. -/
theorem OwB.putE {w : World} {B g c i : Nat} {L : List Int} (h : OwB w B (some ⟨g, 0, none⟩) c L) (x : Int) : OwB (w.setCell ⟨g, i, none⟩ (.int .u8 x)) B (some ⟨g, 0, none⟩) c (L.set i x) := by
  have k := (World.ownsRow.stored h i (.int .u8 x)).1
  unfold OwB
  rw [List.length_set, show cB (L.set i x) = (cB L).set i (.int .u8 x) by simp [cB]]
  exact k
theorem ByL.setE {L : List Int} (h : ByL L) {i : Nat} {x : Int} (hx : 0 ≤ x ∧ x ≤ 255) : ByL (L.set i x) := fun y hy => by
  rcases List.mem_or_eq_of_mem_set hy with hy | rfl
  · exact h y hy
  · exact hx
theorem rdL_len : ∀ l : List Ms, (rdL l).1.length ≤ l.length
  | [] => Nat.le_refl _
  | m :: l => by
    unfold rdL
    have := rdL_len l
    split
    · split
      · simp; omega
      · simp
    · simp
theorem readE_len (L : List Int) : (readE L).1.length ≤ L.length := by
  unfold readE
  have h1 := rdL_len (spl L).1
  have h2 := spl_few L
  split
  · split
    · dsimp only; omega
    · simp
  · simp
set_option maxRecDepth 100000 in
set_option maxHeartbeats 8000000 in
theorem reads_core (A0 : Option Addr) (c0 : Nat) (L0 : List Ev) (at_ x : Int) (Ab : Option Addr) (cb : Nat) (Lb : List Int) (w : World) (hS : Sh w) (hX : Es w A0 L0) (hI : ∀ e ∈ L0, I64e e) (hlc : L0.length ≤ c0) (hcm : c0 ≤ maxLen)
    (hat : I64 at_) (hx : 0 ≤ x ∧ x ≤ 255) (hbn : Ab = none → cb = 0) (hbl : Lb.length ≤ cb) (hbm : cb ≤ maxLen) (hbr : RwB w Ab Lb) (hby : ByL Lb) :
    Calls Tryd.prog 8 #[.slice A0 L0.length c0, .int .i64 at_, .int .u8 x, .slice Ab Lb.length cb] w (fun e w' => e = .returned (.bool true) ∧ Bl w w') := by
  have hlm : (L0.length : Int) ≤ 9223372036854775807 := by unfold maxLen at hcm; omega
  have cf := fun V => fewB1 Ab cb Lb 20 20 rfl V hbr.ad hbl hbm (by omega)
  have hFr : ∀ V, Bl w V → RwB V Ab (Lb.take 20) := fun V g => by
    rcases hbr with h | ⟨b, off, h, hr⟩
    · exact .inl (by rw [h]; rfl)
    · exact .inr ⟨b, off, h, fun i y hy => g.keep (hr.take 20 i y hy)⟩
  have hFl : (Lb.take 20).length ≤ 20 := by rw [List.length_take]; omega
  have hFy : ByL (Lb.take 20) := hby.take 20
  generalize Lb.take 20 = FL at *
  generalize Lb.length = nb at *
  obtain ⟨n, hn⟩ : ∃ n, n = L0.length := ⟨_, rfl⟩
  rw [← hn] at hlm ⊢
  replace hn := Lib.hid hn
  obtain ⟨x0, x1⟩ := hx
  clear hlc hcm hbr hby hbl hbm
  replace hFr := Lib.hid hFr
  replace hFy := Lib.hid hFy
  replace cf := Lib.hid cf
  go_enter Tryd.func8, Tryd.ntmps8
  go_wp2
  go_loopw [9, 10] (fun o i wr => ∃ (k : Nat) (A : Option Addr) (c : Nat) (M : List Ev), k ≤ n ∧ k ≤ 4 ∧ o = .slice A M.length c ∧ i = .int .i64 ((k : Nat) : Int) ∧ OwEv 62 wr w.heap.size A c M ∧ Bl w wr ∧ Hid (M = (L0.take k).map goodE) ∧ Hid (M.length = k)) (fun _ i _ => 4 - (intOf i).toNat)
  case atStart => exact ⟨0, none, 0, [], Nat.zero_le _, Nat.zero_le _, rfl, rfl, OwEv.nil _ _ _, Bl.refl _, Lib.hid rfl, Lib.hid rfl⟩
  case round =>
    obtain ⟨k, A, c, M, hk, hk5, rfl, rfl, own, G, hM, hMk⟩ := hrel
    have hMl : M.length ≤ 4 := by have := hMk.out; omega
    by_cases hlt : k < n ∧ k < 4
    · obtain ⟨hlt, hlt5⟩ := hlt
      have q1 : (k : Int) < n := by omega
      have q5 : (k : Int) < 4 := by omega
      obtain ⟨b, off, e, rfl, he, hc⟩ := (hX.bl G).at (k := k) (by rw [← hn.out]; exact hlt)
      have hie := hI e (List.mem_of_getElem? he)
      have cg := fun V => goodE1 e V hie
      have hMn : M ++ [goodE e] = (L0.take (k + 1)).map goodE := by rw [goods_snoc he, hM.out]
      unfold vE at cg
      generalize goodE e = q at *
      obtain ⟨F0, F1, F2, F3⟩ := hc
      obtain ⟨ek, eid, ea, eb⟩ := e
      obtain ⟨gk, gid, ga, gb⟩ := q
      dsimp only at *
      replace hMn := Lib.hid hMn
      clear he hie hI hX
      go_wp2_with fail
      refine (cg _).mono ?_
      rintro e w1 ⟨rfl, g1⟩
      have own1 := (own.bl g1).bl ((Bl.refl w1).alloc (.cells #[.int .i64 gk, .int .i64 gid, .int .i64 ga, .int .i64 gb] 62))
      have X2 := At.new w1 #[.int .i64 gk, .int .i64 gid, .int .i64 ga, .int .i64 gb] 62
      have G1 := (G.trans g1).alloc (.cells #[.int .i64 gk, .int .i64 gid, .int .i64 ga, .int .i64 gb] 62)
      clear own cg F0 F1 F2 F3
      go_wp2_with (at_builtin; refine wp_app_re rfl (.tmp 27) (.tmp 33) rfl A c M rfl w.heap.size own1 w1.heap.size ⟨gk, gid, ga, gb⟩ rfl X2 (by omega) G1.size ?_; intro A4 c4 w4 own4' by4; have G4 := app_bl by4 G1 (ow_lies own1) (Nat.le_refl _))
      go_roundw
      case rel => exact ⟨k + 1, A4, c4, M ++ [⟨gk, gid, ga, gb⟩], by omega, by omega, by simp, by go_num, own4', G4, hMn, by have := hMk.out; exact Lib.hid (by simp; omega)⟩
      case measure => simp [intOf]; omega
    · have hkk : k = n ∨ k = 4 := by omega
      have hall : ∀ e ∈ M, okE e := by rw [hM.out]; exact goods_ok L0 k
      have cw := fun V (g : Bl wr V) => reWriteO A c M V (own.es.bl g) (by omega)
      rw [wrB_ok hall] at cw
      have hDl := bytesE_len M
      have hDy := bytesE_by M hall
      have hDm : (bytesE M).length ≤ 60 := by omega
      unfold PackO at cw
      generalize bytesE M = D at *
      dsimp only at cw
      obtain ⟨m, hm⟩ : ∃ m, m = M.length := ⟨_, rfl⟩
      rw [← hm] at cw ⊢
      replace hm := Lib.hid hm
      clear hall hI own hX hDl
      by_cases hkn : k < n
      case' pos =>
        have q1 : (k : Int) < n := by omega
        have q5 : ¬ (k : Int) < 4 := by omega
      case' neg =>
        have q1 : ¬ (k : Int) < n := by omega
      all_goals
        clear hlt hkk hkn
        go_wp2_with fail
        refine (cw wr (Bl.refl wr)).mono ?_
        rintro e w1 ⟨A1, c1, rfl, ow1, g1⟩
        have G1 := G.trans g1
        clear cw
        by_cases hD0 : D.length = 0
        · have hTy := Lib.hid hDy
          have d1 : ¬ (0 : Int) < (D.length : Int) := by omega
          clear hD0 hDy
          go_wp2_with fail
          refine (cf.out _).mono ?_
          rintro e w3 ⟨rfl, rfl⟩
          have rF := hFr.out _ (G.trans g1)
          go_wp2_with (at_builtin; refine wp_app_b rfl (.tmp 50) (.tmp 52) rfl A1 c1 D rfl wr.heap.size ow1 Ab FL cb rfl hbn rF (by omega) g1.size ?_; intro A4 c4 w4 own4 by4 _; have G4 : Bl wr w4 := app_bl by4 g1 ow1.lies (Nat.le_refl _))
          have cp := own_caps own4
          have hT2 : (D ++ FL).length ≤ 80 := by rw [List.length_append]; omega
          have hB2 : ByL (D ++ FL) := hTy.out.app hFy.out
          have cr1 := evRead1 A4 c4 (D ++ FL) w4 (hS.bl (G.trans G4)) own4.rwb cp.1 cp.2.1 hB2 (by omega)
          have cr2 := fun V (g : Bl w4 V) => reRead1 A4 c4 (D ++ FL) V (own4.rwb.bl g) cp.1 cp.2.1 hB2 (by omega)
          have hRl : (readE (D ++ FL)).1.length ≤ 1000000 := Nat.le_trans (readE_len _) (by omega)
          unfold RdEQ at cr1 cr2
          generalize readE (D ++ FL) = RR at *
          obtain ⟨RL, RE⟩ := RR
          rw [List.length_append] at cr1 cr2
          dsimp only at cr1 cr2 hRl
          have ca := fun A' c' V (h : Es V A' RL) => asE1 A' c' RL V h hRl
          have cs := fun A' c' B' d' V (h : Es V A' RL) (g : Es V B' RL) => sameE1 A' B' c' d' RL RL V h g hRl
          rw [decide_eq_true (rfl : RL = RL)] at cs
          have cl := fun V (g : Bl w4 V) => livesE V ((hS.bl (G.trans G4)).bl g)
          unfold MkE at ca
          generalize RL.length = rl at *
          generalize D.length = tl at *
          generalize FL.length = fl at *
          clear own4 hT2 hB2 hRl cp by4 rF
          go_wp2_with fail
          refine cr1.mono ?_
          rintro e w5 ⟨A5, c5, rfl, r5, _, g5⟩
          go_wp2_with fail
          refine (cr2 w5 g5).mono ?_
          rintro e w6 ⟨A6, c6, rfl, r6, _, g6⟩
          have h6 := g5.trans g6
          have ca6 := ca A5 c5 w6 (r5.bl g6)
          clear cr1 cr2 ca
          go_wp2_with fail
          refine ca6.mono ?_
          rintro e w7 ⟨A7, c7, rfl, ow7, g7⟩
          have h7 := h6.trans g7
          have cs7 := cs A7 c7 A6 c6 w7 ow7.es (r6.bl g7)
          clear cs ca6
          go_wp2_with fail
          refine cs7.mono ?_
          rintro e w8 ⟨rfl, g8⟩
          have h8 := h7.gr g8
          have cl8 := cl w8 h8
          clear cl cs7
          go_wp2_with fail
          refine cl8.mono ?_
          rintro e w9 ⟨rfl, g9⟩
          go_wp2
          go_ret
          exact ⟨by simp, (G.trans G4).trans (h8.trans g9)⟩
        · have d1 : (0 : Int) < (D.length : Int) := by omega
          have cA := aroundM1 at_ D.length w1 hat ⟨by omega, by omega⟩
          obtain ⟨b0, b1⟩ := aroundM_bd at_ D.length d1
          obtain ⟨j, hj⟩ : ∃ j : Nat, aroundM at_ D.length = j := ⟨(aroundM at_ D.length).toNat, by omega⟩
          rw [hj] at cA b0 b1
          have hjD : j < D.length := by omega
          obtain ⟨g, rfl, hg⟩ : ∃ g, A1 = some ⟨g, 0, none⟩ ∧ wr.heap.size ≤ g := by
            rcases ow1.lies with h | ⟨g, h, h1, _⟩
            · exfalso
              rcases ow1.rwb with h' | ⟨b, off, h', _⟩
              · rw [h'] at hD0; simp at hD0
              · rw [h] at h'; cases h'
            · exact ⟨g, h, h1⟩
          have own2 := ow1.putE (i := j) x
          have g2 := g1.setCell (p := ⟨g, j, none⟩) hg (.int .u8 x)
          have fr := World.ownsRow.frozenAt ow1 j
          obtain ⟨y, hy⟩ := list_at hjD
          have cj : w1.cell? ⟨g, j, none⟩ = some (.int .u8 y) := by
            have := World.ownsRow.cellAt ow1 j (by omega)
            rw [this]
            unfold cB
            rw [List.getElem?_map, hy]; rfl
          have hTy := Lib.hid (hDy.setE (i := j) (x := x) ⟨x0, x1⟩)
          have hTl : (D.set j x).length = D.length := List.length_set
          have q7 : (j : Int) < (D.length : Int) := by omega
          clear hy hD0 hDy hj ow1
          go_wp2_with fail
          refine cA.mono ?_
          rintro e w2 ⟨rfl, rfl⟩
          go_upto_region 9 with fail
          generalize w1.setCell ⟨g, j, none⟩ (.int .u8 x) = w2 at *
          rw [← hTl]
          have hTm : (D.set j x).length ≤ 60 := by omega
          generalize D.set j x = T at *
          obtain ⟨A1, hA1⟩ : ∃ A1, A1 = some (⟨g, 0, none⟩ : Addr) := ⟨_, rfl⟩
          rw [← hA1] at own2 ⊢
          replace hA1 := Lib.hid hA1
          clear fr cj cA b0 b1 hTl hDm d1 q7 hjD
          go_wp2_with fail
          refine (cf.out _).mono ?_
          rintro e w3 ⟨rfl, rfl⟩
          have rF := hFr.out _ (G.trans g2)
          go_wp2_with (at_builtin; refine wp_app_b rfl (.tmp 50) (.tmp 52) rfl A1 c1 T rfl wr.heap.size own2 Ab FL cb rfl hbn rF (by omega) g2.size ?_; intro A4 c4 w4 own4 by4 _; have G4 : Bl wr w4 := app_bl by4 g2 own2.lies (Nat.le_refl _))
          have cp := own_caps own4
          have hT2 : (T ++ FL).length ≤ 80 := by rw [List.length_append]; omega
          have hB2 : ByL (T ++ FL) := hTy.out.app hFy.out
          have cr1 := evRead1 A4 c4 (T ++ FL) w4 (hS.bl (G.trans G4)) own4.rwb cp.1 cp.2.1 hB2 (by omega)
          have cr2 := fun V (g : Bl w4 V) => reRead1 A4 c4 (T ++ FL) V (own4.rwb.bl g) cp.1 cp.2.1 hB2 (by omega)
          have hRl : (readE (T ++ FL)).1.length ≤ 1000000 := Nat.le_trans (readE_len _) (by omega)
          unfold RdEQ at cr1 cr2
          generalize readE (T ++ FL) = RR at *
          obtain ⟨RL, RE⟩ := RR
          rw [List.length_append] at cr1 cr2
          dsimp only at cr1 cr2 hRl
          have ca := fun A' c' V (h : Es V A' RL) => asE1 A' c' RL V h hRl
          have cs := fun A' c' B' d' V (h : Es V A' RL) (g : Es V B' RL) => sameE1 A' B' c' d' RL RL V h g hRl
          rw [decide_eq_true (rfl : RL = RL)] at cs
          have cl := fun V (g : Bl w4 V) => livesE V ((hS.bl (G.trans G4)).bl g)
          unfold MkE at ca
          generalize RL.length = rl at *
          generalize T.length = tl at *
          generalize FL.length = fl at *
          clear own4 hT2 hB2 hRl cp by4 rF
          go_wp2_with fail
          refine cr1.mono ?_
          rintro e w5 ⟨A5, c5, rfl, r5, _, g5⟩
          go_wp2_with fail
          refine (cr2 w5 g5).mono ?_
          rintro e w6 ⟨A6, c6, rfl, r6, _, g6⟩
          have h6 := g5.trans g6
          have ca6 := ca A5 c5 w6 (r5.bl g6)
          clear cr1 cr2 ca
          go_wp2_with fail
          refine ca6.mono ?_
          rintro e w7 ⟨A7, c7, rfl, ow7, g7⟩
          have h7 := h6.trans g7
          have cs7 := cs A7 c7 A6 c6 w7 ow7.es (r6.bl g7)
          clear cs ca6
          go_wp2_with fail
          refine cs7.mono ?_
          rintro e w8 ⟨rfl, g8⟩
          have h8 := h7.gr g8
          have cl8 := cl w8 h8
          clear cl cs7
          go_wp2_with fail
          refine cl8.mono ?_
          rintro e w9 ⟨rfl, g9⟩
          go_wp2
          go_ret
          exact ⟨by simp, (G.trans G4).trans (h8.trans g9)⟩

end Go.Proofs.YthkbenhlhldglaaDoor
