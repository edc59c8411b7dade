/-
  What is proved: the statement RequestParses walked: the requests of bytes, or the error, are the document's, for any requests, any byte that is another one, any bytes behind. No conditions but bounds.
-/
import Derived.Test.YthkbenhlhldglaaDoorMx
import Derived.Test.YthkbenhlhldglaaDoorMk
import Derived.Test.YthkbenhlhldglaaDoorZka
import Derived.Test.YthkbenhlhldglaaDoorZof
import Derived.Test.YthkbenhlhldglaaDoorZph
import Derived.Test.YthkbenhlhldglaaDoorMb
import Derived.Test.YthkbenhlhldglaaDoorMa
import Derived.Deep.RegionHeld3
import Derived.Deep.CutBlock
import Derived.Deep.DeepCutAuto
namespace Go.Proofs.YthkbenhlhldglaaDoor
open Go.RowKit Go.Sort

theorem OwB.putP {w : World} {B g c i : Nat} {L : List Int} (h : OwB w B (some ⟨g, 0, none⟩) c L) (x : Int) : OwB (w.setCell ⟨g, i, none⟩ (.int .u8 x)) B (some ⟨g, 0, none⟩) c (L.set i x) := by
  have k := (World.ownsRow.stored h i (.int .u8 x)).1
  unfold OwB
  rw [List.length_set, show cB (L.set i x) = (cB L).set i (.int .u8 x) by simp [cB]]
  exact k
theorem ByL.setP {L : List Int} (h : ByL L) {i : Nat} {x : Int} (hx : 0 ≤ x ∧ x ≤ 255) : ByL (L.set i x) := fun y hy => by
  rcases List.mem_or_eq_of_mem_set hy with hy | rfl
  · exact h y hy
  · exact hx
theorem goodQ_by3 {r : Rq} (h : ByL r.d) : ByL (goodQ r).d := by
  rcases goodQ_d r with e | e
  · rw [e]; exact ByL.nil
  · rw [e]; exact h.take 64
theorem sameQ_same (r : Rq) : sameQ r r = true := (sameQ_iff r r).2 rfl
theorem parF_by : ∀ ms : List Ms, (∀ m ∈ ms, ByL m.body) → (∀ q ∈ (parF ms).1, ByL q.d) ∧ (parF ms).1.length ≤ ms.length
  | [], _ => ⟨fun q hq => by simp [parF] at hq, Nat.le_refl _⟩
  | m :: l, h => by
    have ih := parF_by l fun m' hm => h m' (by simp [hm])
    unfold parF
    split
    · refine ⟨fun q hq => ?_, by have := ih.2; simp; omega⟩
      rcases List.mem_cons.1 hq with rfl | hq
      · exact dec_by (h m (by simp))
      · exact ih.1 q hq
    · exact ⟨fun q hq => by simp at hq, by simp⟩
theorem parR_by {L : List Int} (h : ByL L) : (∀ q ∈ (parR L).1, ByL q.d) ∧ (parR L).1.length ≤ L.length := by
  have h1 := parF_by (spl L).1 fun m hm => (spl_inQ L.length L (Nat.le_refl _) h m hm).1
  exact ⟨h1.1, Nat.le_trans h1.2 (spl_few L)⟩
set_option maxRecDepth 100000 in
set_option maxHeartbeats 8000000 in
theorem qparses_core (A0 : Option Addr) (c0 : Nat) (X0 : List (Rq × Value)) (at_ x : Int) (Ab : Option Addr) (cb : Nat) (Lb : List Int) (w : World) (hX : Pv w A0 X0) (hI : ∀ p ∈ X0, InQ p.1) (hlm : X0.length ≤ maxLen)
    (hat : I64 at_) (hx : 0 ≤ x ∧ x ≤ 255) (hbn : Ab = none → cb = 0) (hbl : Lb.length ≤ cb) (hbm : cb ≤ maxLen) (hbr : RwB w Ab Lb) (hby : ByL Lb) :
    Calls Tryd.prog 5 #[.slice A0 X0.length c0, .int .i64 at_, .int .u8 x, .slice Ab Lb.length cb] w (fun e w' => e = .returned (.bool true) ∧ Bl w w') := by
  have hlm2 : (X0.length : Int) ≤ 9223372036854775807 := by unfold maxLen at hlm; omega
  have cf := fun V => fewB1 Ab cb Lb 20 20 rfl V hbr.ad hbl hbm (by omega)
  have hFr : ∀ V, Bl w V → RwB V Ab (Lb.take 20) := fun V g => by
    rcases hbr with h | ⟨b, off, h, hr⟩
    · exact .inl (by rw [h]; rfl)
    · exact .inr ⟨b, off, h, fun i y hy => g.keep (hr.take 20 i y hy)⟩
  have hFl : (Lb.take 20).length ≤ 20 := by rw [List.length_take]; omega
  have hFy : ByL (Lb.take 20) := hby.take 20
  generalize Lb.take 20 = FL at *
  generalize Lb.length = nbb at *
  obtain ⟨n, hn⟩ : ∃ n, n = X0.length := ⟨_, rfl⟩
  rw [← hn] at hlm2 ⊢
  replace hn := Lib.hid hn
  have cl := qlives1
  clear hlm hbr hby hbl hbm
  replace hFr := Lib.hid hFr
  replace hFy := Lib.hid hFy
  replace cf := Lib.hid cf
  go_enter Tryd.func5, Tryd.ntmps5
  go_wp2
  go_loopw [9, 10] (fun o i wr => ∃ (k : Nat) (A : Option Addr) (c : Nat) (D : List Int), k ≤ n ∧ k ≤ 6 ∧ o = .slice A D.length c ∧ i = .int .i64 ((k : Nat) : Int) ∧ OwB wr w.heap.size A c D ∧ Bl w wr ∧ Hid (ByL D) ∧ Hid (D.length ≤ k * 1000)) (fun _ i _ => 6 - (intOf i).toNat)
  case atStart => exact ⟨0, none, 0, [], Nat.zero_le _, Nat.zero_le _, rfl, rfl, OwB.nil _ _, Bl.refl _, Lib.hid ByL.nil, Lib.hid (Nat.le_refl _)⟩
  case round =>
    obtain ⟨k, A, c, D, hk, hk6, rfl, rfl, own, G, hDy, hDl⟩ := hrel
    have hDm : D.length ≤ 6000 := by have := hDl.out; omega
    by_cases hlt : k < n ∧ k < 6
    · obtain ⟨hlt, hlt6⟩ := hlt
      have q1 : (k : Int) < n := by omega
      have q5 : (k : Int) < 6 := by omega
      obtain ⟨b, off, p, rfl, hp, F, sv⟩ := (hX.bl G).at (k := k) (by rw [← hn.out]; exact hlt)
      have hin := hI p (List.mem_of_getElem? hp)
      obtain ⟨r, dv⟩ := p
      dsimp only at *
      have bg := goodQ_by3 hin.d
      have cg := fun V (g : Bl wr V) => rgoodQ1 r dv V (sv.bl g) hin
      have ok := goodQ_ok r
      obtain ⟨b0, hb5, _, he, _⟩ := ok.enc
      have hbe := (encR_by bg).1
      have ce := fun V d' h => renc1 (goodQ r) d' V h bg
      rw [he] at hbe ce
      dsimp only at hbe
      have hid := (idB_may (mayQ_id ok.may)).2
      have hop := ok.op
      have hokm : okM ⟨(goodQ r).op, (goodQ r).id, b0⟩ := ⟨⟨hop.1, by show (goodQ r).op ≤ 255; omega⟩, hid, by dsimp only; omega⟩
      have cw := fun V A' c' (h1 : RwB V A' b0) (h2 : A' = none → c' = 0) => rwrite1 A' c' ⟨(goodQ r).op, (goodQ r).id, b0⟩ V hokm h1 h2
      have hMl := encM_len ⟨(goodQ r).op, (goodQ r).id, b0⟩
      have hMy := encM_by hokm hbe
      dsimp only at hMl
      generalize encM ⟨(goodQ r).op, (goodQ r).id, b0⟩ = M at *
      obtain ⟨Ad, cd, rfl, _⟩ := sv
      unfold GoodQ at cg
      unfold EncQ at ce
      generalize goodQ r = g at *
      dsimp only at ce cw
      unfold vQ at *
      obtain ⟨f0, f1, f2, f3, f4, f5, f6, f7, f8, f9⟩ := F
      dsimp only at *
      generalize r.d.length = nd at *
      generalize hgo : g.op = go at *
      generalize hgi : g.id = gi at *
      replace hgo := Lib.hid hgo
      replace hgi := Lib.hid hgi
      obtain ⟨nb, hnb⟩ : ∃ nb, nb = b0.length := ⟨_, rfl⟩
      rw [← hnb] at cw hMl hb5
      replace hnb := Lib.hid hnb
      have hMm : M.length ≤ 1000 := by omega
      replace hMl := Lib.hid hMl
      clear hp hin hI hX ok he bg hbe hid hop hokm
      go_wp2_with fail
      refine (cg _ (Bl.refl _)).mono ?_
      rintro e w2 ⟨dg, rfl, sg, g2⟩
      have cE := ce _ _ sg
      obtain ⟨Ag, kg, rfl, _⟩ := sg
      generalize g.d.length = ng at *
      clear f0 f1 f2 f3 f4 f5 f6 f7 f8 f9 cg ce
      go_wp2_with fail
      refine cE.mono ?_
      rintro e w3 ⟨v3, rfl, s3, g3⟩
      obtain ⟨A3, c3, rfl, t1, t2, t3, t4⟩ := s3
      rw [← hnb.out]
      have X9 := At.new w3 #[.int .i64 go, .int .i64 gi, .slice A3 nb c3] 24
      have m0 : (w3.alloc (.cells #[.int .i64 go, .int .i64 gi, .slice A3 nb c3] 24)).cell? ⟨w3.heap.size, 0, none⟩ = some (.int .i64 go) := (X9.cell 0).trans rfl
      have m1 : (w3.alloc (.cells #[.int .i64 go, .int .i64 gi, .slice A3 nb c3] 24)).cell? ⟨w3.heap.size, 1, none⟩ = some (.int .i64 gi) := (X9.cell 1).trans rfl
      have m2 : (w3.alloc (.cells #[.int .i64 go, .int .i64 gi, .slice A3 nb c3] 24)).cell? ⟨w3.heap.size, 2, none⟩ = some (.slice A3 nb c3) := (X9.cell 2).trans rfl
      have cW := cw (w3.alloc (.cells #[.int .i64 go, .int .i64 gi, .slice A3 nb c3] 24)) A3 c3 (t4.bl ((Bl.refl w3).alloc _)) t1
      have H3 := (g2.trans g3).alloc (.cells #[.int .i64 go, .int .i64 gi, .slice A3 nb c3] 24)
      clear cE cw X9 t1 t2 t3 t4 g2 g3
      dsimp only
      go_wp2_with fail
      refine cW.mono ?_
      rintro e w6 ⟨A6, c6, rfl, s6, g6⟩
      obtain ⟨A6', c6', hs6, y1, y2, y3, y4⟩ := s6
      injection hs6 with z1 z2 z3
      subst z1
      subst z3
      have H6 := H3.trans g6
      have own6 := own.bl H6
      have G6 := G.trans H6
      clear cW m0 m1 m2 H3 g6 own
      go_wp2_with (at_builtin; refine wp_app_b rfl (.tmp 44) (.tmp 45) rfl A c D rfl w.heap.size own6 A6 M c6 rfl y1 y4 (by omega) G6.size ?_; intro A7 c7 w7 own7 by7 _; have G7 : Bl w w7 := app_bl by7 G6 own6.lies (Nat.le_refl _))
      go_roundw
      case rel => exact ⟨k + 1, A7, c7, D ++ M, by omega, by omega, by rw [List.length_append], by go_num, own7, G7, Lib.hid (hDy.out.app hMy), Lib.hid (by rw [List.length_append]; have := hDl.out; omega)⟩
      case measure => simp [intOf]; omega
    · have hkk : k = n ∨ k = 6 := by omega
      clear hI hX hDl
      by_cases hkn : k < n
      case' pos =>
        have q1 : (k : Int) < n := by omega
        have q5 : ¬ (k : Int) < 6 := by omega
      case' neg =>
        have q1 : ¬ (k : Int) < n := by omega
      all_goals
        clear hlt hkk hkn
        obtain ⟨A1, hA1⟩ : ∃ A1, A1 = A := ⟨_, rfl⟩
        obtain ⟨c1, hc1⟩ : ∃ c1, c1 = c := ⟨_, rfl⟩
        subst hA1
        subst hc1
        by_cases hD0 : D.length = 0
        · have hTy := hDy
          have d1 : ¬ (0 : Int) < (D.length : Int) := by omega
          clear hD0 hDy
          go_wp2_with fail
          refine (cf.out _).mono ?_
          rintro e w3 ⟨rfl, rfl⟩
          have rF := hFr.out _ G
          go_wp2_with (at_builtin; refine wp_app_b rfl (.tmp 57) (.tmp 59) rfl A1 c1 D rfl w.heap.size own Ab FL cb rfl hbn rF (by omega) (Bl.size G) ?_; intro A4 c4 w4 own4 by4 _; have G4 : Bl w w4 := app_bl by4 G (OwB.lies own) (Nat.le_refl _))
          have cp := own_caps own4
          have hT2 : (D ++ FL).length ≤ 100000 := by rw [List.length_append]; omega
          have hB2 : ByL (D ++ FL) := hTy.out.app hFy.out
          have cr1 := qparse1 A4 c4 (D ++ FL) w4 own4.rwb cp.1 cp.2.1 hB2 (by omega)
          have cr2 := fun V (g : Bl w4 V) => rparse1 A4 c4 (D ++ FL) V (own4.rwb.bl g) cp.1 cp.2.1 hB2 (by omega)
          obtain ⟨hRy, hRl⟩ := parR_by hB2
          replace hRl := Nat.le_trans hRl hT2
          unfold ParQ at cr1 cr2
          generalize parR (D ++ FL) = RR at *
          obtain ⟨RL, RE⟩ := RR
          rw [List.length_append] at cr1 cr2
          dsimp only at cr1 cr2 hRl hRy
          obtain ⟨rl, hrl⟩ : ∃ rl, rl = RL.length := ⟨_, rfl⟩
          rw [← hrl] at cr1 cr2 hRl
          replace hrl := Lib.hid hrl
          replace hRy := Lib.hid hRy
          generalize D.length = tl at *
          generalize FL.length = fl at *
          clear own4 hT2 hB2 cp by4 rF
          go_wp2_with fail
          refine cr1.mono ?_
          rintro e w5 ⟨A5, c5, X5, rfl, h5, p5, g5⟩
          go_wp2_with fail
          refine (cr2 w5 g5).mono ?_
          rintro e w6 ⟨A6, c6, X6, rfl, h6, p6, g6⟩
          have G6 := Lib.hid (G4.trans (g5.trans g6))
          have p5 := Lib.hid (p5.bl g6)
          replace p6 := Lib.hid p6
          replace h5 := Lib.hid h5
          replace h6 := Lib.hid h6
          clear cr1 cr2 G4 g5 g6
          go_wp2
          go_loopw [19] (fun i wr => ∃ k : Nat, k ≤ rl ∧ i = .int .i64 ((k : Nat) : Int) ∧ Bl w6 wr) (fun i _ => rl - (intOf i).toNat)
          case atStart => exact ⟨0, Nat.zero_le _, rfl, Bl.refl _⟩
          case round =>
            obtain ⟨k, hk, rfl, GG⟩ := hrel
            by_cases hlt2 : k < rl
            · have q1 : (k : Int) < (rl : Int) := by omega
              obtain ⟨b5, o5, p, rfl, hp, F5, s5⟩ := (p5.out.bl GG).at (k := k) (by have := congrArg List.length h5.out; rw [List.length_map, ← hrl.out] at this; omega)
              obtain ⟨b6, o6, p', rfl, hp', F6, s6⟩ := (p6.out.bl GG).at (k := k) (by have := congrArg List.length h6.out; rw [List.length_map, ← hrl.out] at this; omega)
              have e5 : RL[k]? = some p.1 := by rw [← h5.out, List.getElem?_map, hp]; rfl
              have e6 : RL[k]? = some p'.1 := by rw [← h6.out, List.getElem?_map, hp']; rfl
              have hqy := hRy.out p.1 (List.mem_of_getElem? e5)
              obtain ⟨q, dv⟩ := p
              obtain ⟨q', dv'⟩ := p'
              obtain rfl : q = q' := by rw [e5] at e6; exact Option.some.inj e6
              dsimp only at *
              obtain ⟨B5, k5, rfl, hs5⟩ := s5
              have s5 : Sv wr (.slice B5 q.d.length k5) q.d := ⟨B5, k5, rfl, hs5⟩
              obtain ⟨B6, k6, rfl, hs6⟩ := s6
              have s6 : Sv wr (.slice B6 q.d.length k6) q.d := ⟨B6, k6, rfl, hs6⟩
              have ck := fun V (g : Bl wr V) => qlike1 q q _ _ V (s5.bl g) (s6.bl g) hqy hqy
              rw [sameQ_same] at ck
              unfold vQ at ck
              obtain ⟨f0, f1, f2, f3, f4, f5, f6, f7, f8, f9⟩ := F5
              obtain ⟨j0, j1, j2, j3, j4, j5, j6, j7, j8, j9⟩ := F6
              dsimp only at *
              generalize q.d.length = nq at *
              have SK : ∀ V, Bl wr V → V.cell? ⟨b5, o5 + k * 10, none⟩ = some (.int .i64 q.op) ∧ V.cell? ⟨b5, o5 + k * 10 + 1, none⟩ = some (.int .i64 q.id) ∧ V.cell? ⟨b5, o5 + k * 10 + 2, none⟩ = some (.int .i64 q.a) ∧ V.cell? ⟨b5, o5 + k * 10 + 3, none⟩ = some (.int .i64 q.b) ∧ V.cell? ⟨b5, o5 + k * 10 + 4, none⟩ = some (.int .i64 q.x0) ∧ V.cell? ⟨b5, o5 + k * 10 + 5, none⟩ = some (.int .i64 q.y0) ∧ V.cell? ⟨b5, o5 + k * 10 + 6, none⟩ = some (.int .i64 q.x1) ∧ V.cell? ⟨b5, o5 + k * 10 + 7, none⟩ = some (.int .i64 q.y1) ∧ V.cell? ⟨b5, o5 + k * 10 + 8, none⟩ = some (.string q.s) ∧ V.cell? ⟨b5, o5 + k * 10 + 9, none⟩ = some (.slice B5 nq k5) ∧ V.cell? ⟨b6, o6 + k * 10, none⟩ = some (.int .i64 q.op) ∧ V.cell? ⟨b6, o6 + k * 10 + 1, none⟩ = some (.int .i64 q.id) ∧ V.cell? ⟨b6, o6 + k * 10 + 2, none⟩ = some (.int .i64 q.a) ∧ V.cell? ⟨b6, o6 + k * 10 + 3, none⟩ = some (.int .i64 q.b) ∧ V.cell? ⟨b6, o6 + k * 10 + 4, none⟩ = some (.int .i64 q.x0) ∧ V.cell? ⟨b6, o6 + k * 10 + 5, none⟩ = some (.int .i64 q.y0) ∧ V.cell? ⟨b6, o6 + k * 10 + 6, none⟩ = some (.int .i64 q.x1) ∧ V.cell? ⟨b6, o6 + k * 10 + 7, none⟩ = some (.int .i64 q.y1) ∧ V.cell? ⟨b6, o6 + k * 10 + 8, none⟩ = some (.string q.s) ∧ V.cell? ⟨b6, o6 + k * 10 + 9, none⟩ = some (.slice B6 nq k6) ∧ Bl wr V := fun V g => ⟨g.keep f0, g.keep f1, g.keep f2, g.keep f3, g.keep f4, g.keep f5, g.keep f6, g.keep f7, g.keep f8, g.keep f9, g.keep j0, g.keep j1, g.keep j2, g.keep j3, g.keep j4, g.keep j5, g.keep j6, g.keep j7, g.keep j8, g.keep j9, g⟩
              replace SK := Lib.hid SK
              clear hp hp' e5 hqy hs5 hs6 s5 s6 f0 f1 f2 f3 f4 f5 f6 f7 f8 f9 j0 j1 j2 j3 j4 j5 j6 j7 j8 j9 p5 p6 h5 h6 hRy
              go_wp2
              go_region_held3 (fun V => V.cell? ⟨b5, o5 + k * 10, none⟩ = some (.int .i64 q.op) ∧ V.cell? ⟨b5, o5 + k * 10 + 1, none⟩ = some (.int .i64 q.id) ∧ V.cell? ⟨b5, o5 + k * 10 + 2, none⟩ = some (.int .i64 q.a) ∧ V.cell? ⟨b5, o5 + k * 10 + 3, none⟩ = some (.int .i64 q.b) ∧ V.cell? ⟨b5, o5 + k * 10 + 4, none⟩ = some (.int .i64 q.x0) ∧ V.cell? ⟨b5, o5 + k * 10 + 5, none⟩ = some (.int .i64 q.y0) ∧ V.cell? ⟨b5, o5 + k * 10 + 6, none⟩ = some (.int .i64 q.x1) ∧ V.cell? ⟨b5, o5 + k * 10 + 7, none⟩ = some (.int .i64 q.y1) ∧ V.cell? ⟨b5, o5 + k * 10 + 8, none⟩ = some (.string q.s) ∧ V.cell? ⟨b5, o5 + k * 10 + 9, none⟩ = some (.slice B5 nq k5) ∧ V.cell? ⟨b6, o6 + k * 10, none⟩ = some (.int .i64 q.op) ∧ V.cell? ⟨b6, o6 + k * 10 + 1, none⟩ = some (.int .i64 q.id) ∧ V.cell? ⟨b6, o6 + k * 10 + 2, none⟩ = some (.int .i64 q.a) ∧ V.cell? ⟨b6, o6 + k * 10 + 3, none⟩ = some (.int .i64 q.b) ∧ V.cell? ⟨b6, o6 + k * 10 + 4, none⟩ = some (.int .i64 q.x0) ∧ V.cell? ⟨b6, o6 + k * 10 + 5, none⟩ = some (.int .i64 q.y0) ∧ V.cell? ⟨b6, o6 + k * 10 + 6, none⟩ = some (.int .i64 q.x1) ∧ V.cell? ⟨b6, o6 + k * 10 + 7, none⟩ = some (.int .i64 q.y1) ∧ V.cell? ⟨b6, o6 + k * 10 + 8, none⟩ = some (.string q.s) ∧ V.cell? ⟨b6, o6 + k * 10 + 9, none⟩ = some (.slice B6 nq k6) ∧ Bl wr V) ((refine SK.out _ ?_; repeat (first | with_reducible assumption | with_reducible exact Bl.refl _ | with_reducible exact (And.right (And.right (And.right (And.right (And.right (And.right (And.right (And.right (And.right (And.right (And.right (And.right (And.right (And.right (And.right (And.right (And.right (And.right (And.right (And.right (by assumption))))))))))))))))))))) | with_reducible exact Bl.trans (And.right (And.right (And.right (And.right (And.right (And.right (And.right (And.right (And.right (And.right (And.right (And.right (And.right (And.right (And.right (And.right (And.right (And.right (And.right (And.right (by assumption))))))))))))))))))))) (by assumption) | with_reducible exact Bl.gr (And.right (And.right (And.right (And.right (And.right (And.right (And.right (And.right (And.right (And.right (And.right (And.right (And.right (And.right (And.right (And.right (And.right (And.right (And.right (And.right (by assumption))))))))))))))))))))) (by assumption) | with_reducible apply Bl.drew))) ((first | (go_at_call 18; (refine (ck _ (And.right (And.right (And.right (And.right (And.right (And.right (And.right (And.right (And.right (And.right (And.right (And.right (And.right (And.right (And.right (And.right (And.right (And.right (And.right (And.right (by assumption)))))))))))))))))))))).mono ?_); rintro e V1 ⟨rfl, gg⟩; have V1G : Bl wr V1 := Bl.gr (And.right (And.right (And.right (And.right (And.right (And.right (And.right (And.right (And.right (And.right (And.right (And.right (And.right (And.right (And.right (And.right (And.right (And.right (And.right (And.right (by assumption))))))))))))))))))))) gg)))
              go_wp2
              go_roundw
              case rel => exact ⟨k + 1, by omega, by go_num, GG.trans V1G⟩
              case measure => simp [intOf]; omega
            · have q1 : ¬ (k : Int) < (rl : Int) := by omega
              go_wp2_with fail
              refine (cl _).mono ?_
              rintro e w20 ⟨rfl, g20⟩
              go_wp2
              go_ret
              exact ⟨by simp, (G6.out.trans GG).trans g20⟩
        · have d1 : (0 : Int) < (D.length : Int) := by omega
          have cA := fun V => aroundM1 at_ D.length V hat ⟨by omega, by omega⟩
          obtain ⟨b0, b1⟩ := aroundM_bd at_ D.length d1
          obtain ⟨j, hj⟩ : ∃ j : Nat, aroundM at_ D.length = j := ⟨(aroundM at_ D.length).toNat, by omega⟩
          rw [hj] at cA b0 b1
          have hjD : j < D.length := by omega
          obtain ⟨g, rfl, hg⟩ : ∃ g, A1 = some ⟨g, 0, none⟩ ∧ w.heap.size ≤ g := by
            rcases own.lies with h | ⟨g, h, h1, _⟩
            · exfalso
              rcases own.rwb with h' | ⟨b, off, h', _⟩
              · rw [h'] at hD0; simp at hD0
              · rw [h] at h'; cases h'
            · exact ⟨g, h, h1⟩
          have own2 := own.putP (i := j) x
          have g2 := G.setCell (p := ⟨g, j, none⟩) hg (.int .u8 x)
          have fr := World.ownsRow.frozenAt own j
          obtain ⟨y, hyj⟩ := list_at hjD
          have cj : wr.cell? ⟨g, j, none⟩ = some (.int .u8 y) := by
            have := World.ownsRow.cellAt own j (by omega)
            rw [this]
            unfold cB
            rw [List.getElem?_map, hyj]; rfl
          have hTy := Lib.hid (hDy.out.setP (i := j) (x := x) hx)
          have hTl : (D.set j x).length = D.length := List.length_set
          have q7 : (j : Int) < (D.length : Int) := by omega
          clear hyj hD0 hDy hj own
          go_wp2_with fail
          refine (cA _).mono ?_
          rintro e w2 ⟨rfl, rfl⟩
          go_upto_region 10 with fail
          generalize wr.setCell ⟨g, j, none⟩ (.int .u8 x) = w2 at *
          rw [← hTl]
          have hTm : (D.set j x).length ≤ 6000 := by omega
          generalize D.set j x = TT at *
          obtain ⟨A1, hA1⟩ : ∃ A1, A1 = some (⟨g, 0, none⟩ : Addr) := ⟨_, rfl⟩
          rw [← hA1] at own2 ⊢
          replace hA1 := Lib.hid hA1
          clear fr cj cA b0 b1 hTl hDm d1 q7 hjD
          go_wp2_with fail
          refine (cf.out _).mono ?_
          rintro e w3 ⟨rfl, rfl⟩
          have rF := hFr.out _ g2
          go_wp2_with (at_builtin; refine wp_app_b rfl (.tmp 57) (.tmp 59) rfl A1 c1 TT rfl w.heap.size own2 Ab FL cb rfl hbn rF (by omega) (Bl.size g2) ?_; intro A4 c4 w4 own4 by4 _; have G4 : Bl w w4 := app_bl by4 g2 (OwB.lies own2) (Nat.le_refl _))
          have cp := own_caps own4
          have hT2 : (TT ++ FL).length ≤ 100000 := by rw [List.length_append]; omega
          have hB2 : ByL (TT ++ FL) := hTy.out.app hFy.out
          have cr1 := qparse1 A4 c4 (TT ++ FL) w4 own4.rwb cp.1 cp.2.1 hB2 (by omega)
          have cr2 := fun V (g : Bl w4 V) => rparse1 A4 c4 (TT ++ FL) V (own4.rwb.bl g) cp.1 cp.2.1 hB2 (by omega)
          obtain ⟨hRy, hRl⟩ := parR_by hB2
          replace hRl := Nat.le_trans hRl hT2
          unfold ParQ at cr1 cr2
          generalize parR (TT ++ FL) = RR at *
          obtain ⟨RL, RE⟩ := RR
          rw [List.length_append] at cr1 cr2
          dsimp only at cr1 cr2 hRl hRy
          obtain ⟨rl, hrl⟩ : ∃ rl, rl = RL.length := ⟨_, rfl⟩
          rw [← hrl] at cr1 cr2 hRl
          replace hrl := Lib.hid hrl
          replace hRy := Lib.hid hRy
          generalize TT.length = tl at *
          generalize FL.length = fl at *
          clear own4 hT2 hB2 cp by4 rF
          go_wp2_with fail
          refine cr1.mono ?_
          rintro e w5 ⟨A5, c5, X5, rfl, h5, p5, g5⟩
          go_wp2_with fail
          refine (cr2 w5 g5).mono ?_
          rintro e w6 ⟨A6, c6, X6, rfl, h6, p6, g6⟩
          have G6 := Lib.hid (G4.trans (g5.trans g6))
          have p5 := Lib.hid (p5.bl g6)
          replace p6 := Lib.hid p6
          replace h5 := Lib.hid h5
          replace h6 := Lib.hid h6
          clear cr1 cr2 G4 g5 g6
          go_wp2
          go_loopw [19] (fun i wr => ∃ k : Nat, k ≤ rl ∧ i = .int .i64 ((k : Nat) : Int) ∧ Bl w6 wr) (fun i _ => rl - (intOf i).toNat)
          case atStart => exact ⟨0, Nat.zero_le _, rfl, Bl.refl _⟩
          case round =>
            obtain ⟨k, hk, rfl, GG⟩ := hrel
            by_cases hlt2 : k < rl
            · have q1 : (k : Int) < (rl : Int) := by omega
              obtain ⟨b5, o5, p, rfl, hp, F5, s5⟩ := (p5.out.bl GG).at (k := k) (by have := congrArg List.length h5.out; rw [List.length_map, ← hrl.out] at this; omega)
              obtain ⟨b6, o6, p', rfl, hp', F6, s6⟩ := (p6.out.bl GG).at (k := k) (by have := congrArg List.length h6.out; rw [List.length_map, ← hrl.out] at this; omega)
              have e5 : RL[k]? = some p.1 := by rw [← h5.out, List.getElem?_map, hp]; rfl
              have e6 : RL[k]? = some p'.1 := by rw [← h6.out, List.getElem?_map, hp']; rfl
              have hqy := hRy.out p.1 (List.mem_of_getElem? e5)
              obtain ⟨q, dv⟩ := p
              obtain ⟨q', dv'⟩ := p'
              obtain rfl : q = q' := by rw [e5] at e6; exact Option.some.inj e6
              dsimp only at *
              obtain ⟨B5, k5, rfl, hs5⟩ := s5
              have s5 : Sv wr (.slice B5 q.d.length k5) q.d := ⟨B5, k5, rfl, hs5⟩
              obtain ⟨B6, k6, rfl, hs6⟩ := s6
              have s6 : Sv wr (.slice B6 q.d.length k6) q.d := ⟨B6, k6, rfl, hs6⟩
              have ck := fun V (g : Bl wr V) => qlike1 q q _ _ V (s5.bl g) (s6.bl g) hqy hqy
              rw [sameQ_same] at ck
              unfold vQ at ck
              obtain ⟨f0, f1, f2, f3, f4, f5, f6, f7, f8, f9⟩ := F5
              obtain ⟨j0, j1, j2, j3, j4, j5, j6, j7, j8, j9⟩ := F6
              dsimp only at *
              generalize q.d.length = nq at *
              have SK : ∀ V, Bl wr V → V.cell? ⟨b5, o5 + k * 10, none⟩ = some (.int .i64 q.op) ∧ V.cell? ⟨b5, o5 + k * 10 + 1, none⟩ = some (.int .i64 q.id) ∧ V.cell? ⟨b5, o5 + k * 10 + 2, none⟩ = some (.int .i64 q.a) ∧ V.cell? ⟨b5, o5 + k * 10 + 3, none⟩ = some (.int .i64 q.b) ∧ V.cell? ⟨b5, o5 + k * 10 + 4, none⟩ = some (.int .i64 q.x0) ∧ V.cell? ⟨b5, o5 + k * 10 + 5, none⟩ = some (.int .i64 q.y0) ∧ V.cell? ⟨b5, o5 + k * 10 + 6, none⟩ = some (.int .i64 q.x1) ∧ V.cell? ⟨b5, o5 + k * 10 + 7, none⟩ = some (.int .i64 q.y1) ∧ V.cell? ⟨b5, o5 + k * 10 + 8, none⟩ = some (.string q.s) ∧ V.cell? ⟨b5, o5 + k * 10 + 9, none⟩ = some (.slice B5 nq k5) ∧ V.cell? ⟨b6, o6 + k * 10, none⟩ = some (.int .i64 q.op) ∧ V.cell? ⟨b6, o6 + k * 10 + 1, none⟩ = some (.int .i64 q.id) ∧ V.cell? ⟨b6, o6 + k * 10 + 2, none⟩ = some (.int .i64 q.a) ∧ V.cell? ⟨b6, o6 + k * 10 + 3, none⟩ = some (.int .i64 q.b) ∧ V.cell? ⟨b6, o6 + k * 10 + 4, none⟩ = some (.int .i64 q.x0) ∧ V.cell? ⟨b6, o6 + k * 10 + 5, none⟩ = some (.int .i64 q.y0) ∧ V.cell? ⟨b6, o6 + k * 10 + 6, none⟩ = some (.int .i64 q.x1) ∧ V.cell? ⟨b6, o6 + k * 10 + 7, none⟩ = some (.int .i64 q.y1) ∧ V.cell? ⟨b6, o6 + k * 10 + 8, none⟩ = some (.string q.s) ∧ V.cell? ⟨b6, o6 + k * 10 + 9, none⟩ = some (.slice B6 nq k6) ∧ Bl wr V := fun V g => ⟨g.keep f0, g.keep f1, g.keep f2, g.keep f3, g.keep f4, g.keep f5, g.keep f6, g.keep f7, g.keep f8, g.keep f9, g.keep j0, g.keep j1, g.keep j2, g.keep j3, g.keep j4, g.keep j5, g.keep j6, g.keep j7, g.keep j8, g.keep j9, g⟩
              replace SK := Lib.hid SK
              clear hp hp' e5 hqy hs5 hs6 s5 s6 f0 f1 f2 f3 f4 f5 f6 f7 f8 f9 j0 j1 j2 j3 j4 j5 j6 j7 j8 j9 p5 p6 h5 h6 hRy
              go_wp2
              go_region_held3 (fun V => V.cell? ⟨b5, o5 + k * 10, none⟩ = some (.int .i64 q.op) ∧ V.cell? ⟨b5, o5 + k * 10 + 1, none⟩ = some (.int .i64 q.id) ∧ V.cell? ⟨b5, o5 + k * 10 + 2, none⟩ = some (.int .i64 q.a) ∧ V.cell? ⟨b5, o5 + k * 10 + 3, none⟩ = some (.int .i64 q.b) ∧ V.cell? ⟨b5, o5 + k * 10 + 4, none⟩ = some (.int .i64 q.x0) ∧ V.cell? ⟨b5, o5 + k * 10 + 5, none⟩ = some (.int .i64 q.y0) ∧ V.cell? ⟨b5, o5 + k * 10 + 6, none⟩ = some (.int .i64 q.x1) ∧ V.cell? ⟨b5, o5 + k * 10 + 7, none⟩ = some (.int .i64 q.y1) ∧ V.cell? ⟨b5, o5 + k * 10 + 8, none⟩ = some (.string q.s) ∧ V.cell? ⟨b5, o5 + k * 10 + 9, none⟩ = some (.slice B5 nq k5) ∧ V.cell? ⟨b6, o6 + k * 10, none⟩ = some (.int .i64 q.op) ∧ V.cell? ⟨b6, o6 + k * 10 + 1, none⟩ = some (.int .i64 q.id) ∧ V.cell? ⟨b6, o6 + k * 10 + 2, none⟩ = some (.int .i64 q.a) ∧ V.cell? ⟨b6, o6 + k * 10 + 3, none⟩ = some (.int .i64 q.b) ∧ V.cell? ⟨b6, o6 + k * 10 + 4, none⟩ = some (.int .i64 q.x0) ∧ V.cell? ⟨b6, o6 + k * 10 + 5, none⟩ = some (.int .i64 q.y0) ∧ V.cell? ⟨b6, o6 + k * 10 + 6, none⟩ = some (.int .i64 q.x1) ∧ V.cell? ⟨b6, o6 + k * 10 + 7, none⟩ = some (.int .i64 q.y1) ∧ V.cell? ⟨b6, o6 + k * 10 + 8, none⟩ = some (.string q.s) ∧ V.cell? ⟨b6, o6 + k * 10 + 9, none⟩ = some (.slice B6 nq k6) ∧ Bl wr V) ((refine SK.out _ ?_; repeat (first | with_reducible assumption | with_reducible exact Bl.refl _ | with_reducible exact (And.right (And.right (And.right (And.right (And.right (And.right (And.right (And.right (And.right (And.right (And.right (And.right (And.right (And.right (And.right (And.right (And.right (And.right (And.right (And.right (by assumption))))))))))))))))))))) | with_reducible exact Bl.trans (And.right (And.right (And.right (And.right (And.right (And.right (And.right (And.right (And.right (And.right (And.right (And.right (And.right (And.right (And.right (And.right (And.right (And.right (And.right (And.right (by assumption))))))))))))))))))))) (by assumption) | with_reducible exact Bl.gr (And.right (And.right (And.right (And.right (And.right (And.right (And.right (And.right (And.right (And.right (And.right (And.right (And.right (And.right (And.right (And.right (And.right (And.right (And.right (And.right (by assumption))))))))))))))))))))) (by assumption) | with_reducible apply Bl.drew))) ((first | (go_at_call 18; (refine (ck _ (And.right (And.right (And.right (And.right (And.right (And.right (And.right (And.right (And.right (And.right (And.right (And.right (And.right (And.right (And.right (And.right (And.right (And.right (And.right (And.right (by assumption)))))))))))))))))))))).mono ?_); rintro e V1 ⟨rfl, gg⟩; have V1G : Bl wr V1 := Bl.gr (And.right (And.right (And.right (And.right (And.right (And.right (And.right (And.right (And.right (And.right (And.right (And.right (And.right (And.right (And.right (And.right (And.right (And.right (And.right (And.right (by assumption))))))))))))))))))))) gg)))
              go_wp2
              go_roundw
              case rel => exact ⟨k + 1, by omega, by go_num, GG.trans V1G⟩
              case measure => simp [intOf]; omega
            · have q1 : ¬ (k : Int) < (rl : Int) := by omega
              go_wp2_with fail
              refine (cl _).mono ?_
              rintro e w20 ⟨rfl, g20⟩
              go_wp2
              go_ret
              exact ⟨by simp, (G6.out.trans GG).trans g20⟩

end Go.Proofs.YthkbenhlhldglaaDoor
