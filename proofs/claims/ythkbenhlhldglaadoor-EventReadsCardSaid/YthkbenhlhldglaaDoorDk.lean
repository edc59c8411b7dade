/-
  What is proved: what Read of the document's package of events hands back of any bytes. No conditions but bounds.
-/
import Derived.Test.YthkbenhlhldglaaDoorDj
import Derived.Test.YthkbenhlhldglaaDoorDg
import Derived.Test.YthkbenhlhldglaaDoorDm
import Derived.Test.YthkbenhlhldglaaDoorOja
import Derived.Test.YthkbenhlhldglaaDoorUn
import Derived.Deep.RegionHeld3
import Derived.Deep.CutBlock
import Derived.Deep.DeepCutAuto
namespace Go.Proofs.YthkbenhlhldglaaDoor
open Go.RowKit Go.Sort

theorem decE_op {m : Ms} (h : ¬ (0 ≤ m.op - 128 ∧ m.op - 128 ≤ 5)) : decE m = (zE, 12) := by unfold decE; rw [if_neg h]
/-- What an event's message tells, step by step. -/
theorem decE_steps {m : Ms} {n : Nat} (hn : m.op - 128 = n) (h6 : n < 6) {l : List Int} {E : Int} (hu : unR (efL n) m.body = (l.map vI, E)) :
    decE m = if E = 0 then (if mayE ⟨m.op - 128, m.id, l.getD 0 0, l.getD 1 0⟩ = true then (⟨m.op - 128, m.id, l.getD 0 0, l.getD 1 0⟩, 0) else (zE, 4)) else (zE, E) := by
  have hk : (m.op - 128).toNat = n := by omega
  have hset : setE (m.op - 128) m.id (l.map vI) = ⟨m.op - 128, m.id, l.getD 0 0, l.getD 1 0⟩ := by
    unfold setE
    rw [List.map_map, show ((fun v : Av => v.n) ∘ vI) = id from rfl, List.map_id]
  unfold decE
  rw [if_pos (by omega), hk, hu]
  unfold decUE
  rw [hset]
set_option maxRecDepth 100000 in
set_option maxHeartbeats 4000000 in
theorem reRead1 (A0 : Option Addr) (c0 : Nat) (B : List Int) (w : World) (hA : RwB w A0 B) (hc : B.length ≤ c0) (hcm : c0 ≤ maxLen) (hb : ByL B) (hl : B.length ≤ 1000000) : Calls Tryd.prog 37 #[.slice A0 B.length c0] w (RdEQ w (readE B)) := by
  have cs := rsplit1 A0 c0 B w hA hc hcm hb hl
  have hin := spl_in B.length B (Nat.le_refl _) hb
  have hfew := spl_few B
  unfold SpQ at cs
  have hrd : readE B = if (rdL (spl B).1).2 = 0 then (if (spl B).2.2 = 0 then ((rdL (spl B).1).1, 0) else ([], (spl B).2.2)) else ([], (rdL (spl B).1).2) := rfl
  generalize readE B = RR at *
  generalize (spl B).1 = ms at *
  generalize (spl B).2.1 = used at *
  generalize (spl B).2.2 = ee at *
  generalize B.length = n0 at *
  have zn : ∀ k m, ms[k]? = some m → ∀ L, Rdu ms k L → (decE m).2 ≠ 0 → ∀ V, Bl w V → RdEQ w RR (.returned (.tuple #[.slice none 0 0, .int .i64 (decE m).2])) V := fun k m hm L hu h0 V g => by
    rw [hrd, hu.bad hm h0, if_neg h0]; exact RdEQ.none g
  have ze : ∀ k L, Rdu ms k L → ms.length ≤ k → ee ≠ 0 → ∀ V, Bl w V → RdEQ w RR (.returned (.tuple #[.slice none 0 0, .int .i64 ee])) V := fun k L hu hk h0 V g => by
    rw [hrd, hu.all hk, if_pos rfl, if_neg h0]; exact RdEQ.none g
  have zz : ∀ k L, Rdu ms k L → ms.length ≤ k → ee = 0 → RR = (L, 0) := fun k L hu hk h0 => by
    rw [hrd, hu.all hk, if_pos rfl, if_pos h0]
  generalize hZ : RdEQ w RR = Z at *
  replace hZ := Lib.hid hZ
  replace hin := Lib.hid hin
  clear hrd hA hc hcm hb
  go_enter Tryd.func37, Tryd.ntmps37
  go_wp2_with fail
  refine cs.mono ?_
  rintro e w1 ⟨A1, c1, X, rfl, hX, hM, _, _, _, g1⟩
  obtain ⟨n, hn⟩ : ∃ n, n = X.length := ⟨_, rfl⟩
  have hnm : n = ms.length := by rw [hn, ← hX, List.length_map]
  rw [← hn]
  have hnl : n ≤ 1000000 := by omega
  replace hn := Lib.hid hn
  replace hnm := Lib.hid hnm
  replace hX := Lib.hid hX
  replace zn := Lib.hid zn
  replace ze := Lib.hid ze
  replace zz := Lib.hid zz
  clear cs hfew
  go_wp2
  go_loopw [7, 8] (fun o i wr => ∃ (k : Nat) (A : Option Addr) (c : Nat) (L : List Ev), k ≤ n ∧ o = .slice A L.length c ∧ i = .int .i64 ((k : Nat) : Int) ∧ OwEv 62 wr w1.heap.size A c L ∧ Bl w1 wr ∧ Hid (Rdu ms k L) ∧ Hid (L.length = k)) (fun _ i _ => n - (intOf i).toNat)
  case atStart => exact ⟨0, none, 0, [], Nat.zero_le _, rfl, rfl, OwEv.nil _ _ _, Bl.refl _, Lib.hid (Rdu.zero ms), Lib.hid rfl⟩
  case round =>
    obtain ⟨k, A, c, L, hk, rfl, rfl, own, G, hu, hLk⟩ := hrel
    have hLl : L.length ≤ 1000000 := by have := hLk.out; omega
    by_cases hlt : k < n
    · have q1 : (k : Int) < n := by omega
      obtain ⟨b, off, p, rfl, hp, x0, x1, x2, sv⟩ := hM.at (k := k) (by rw [← hn.out]; exact hlt)
      have hm : ms[k]? = some p.1 := by rw [← hX.out, List.getElem?_map, hp]; rfl
      have hi := hin.out p.1 (List.mem_of_getElem? hm)
      obtain ⟨⟨op, id, body⟩, v⟩ := p
      dsimp only at *
      obtain ⟨A5, c5, rfl, s5⟩ := sv
      have zn' := Lib.hid (zn.out k _ hm L hu.out)
      have hst := Lib.hid (fun h => hu.out.step hm h)
      have hop := hi.op
      dsimp only at hop
      obtain ⟨o1, o2⟩ := hop
      have hwr : IntKind.i64.wrap (op - 128) = op - 128 := IntWalk.i64_in _ (by omega)
      have SK : ∀ V, Bl w1 V → V.cell? ⟨b, off + k * 3, none⟩ = some (.int .i64 op) ∧ V.cell? ⟨b, off + k * 3 + 1, none⟩ = some (.int .i64 id) ∧ Bl w1 V := fun V g => ⟨g.keep x0, g.keep x1, g⟩
      replace SK := Lib.hid SK
      replace hi := Lib.hid hi
      have hno := @decE_op ⟨op, id, body⟩
      have hst2 : ∀ n : Nat, op - 128 = n → n < 6 → ∀ (l : List Int) (E : Int), unR (efL n) body = (l.map vI, E) → decE ⟨op, id, body⟩ = if E = 0 then (if mayE ⟨op - 128, id, l.getD 0 0, l.getD 1 0⟩ = true then (⟨op - 128, id, l.getD 0 0, l.getD 1 0⟩, 0) else (zE, 4)) else (zE, E) := fun n h1 h2 l E h3 => decE_steps (m := ⟨op, id, body⟩) h1 h2 h3
      dsimp only at hno
      generalize decE ⟨op, id, body⟩ = D at *
      replace hno := Lib.hid hno
      replace hst2 := Lib.hid hst2
      clear hp hm
      go_wp2
      go_region_held3 (fun V => V.cell? ⟨b, off + k * 3, none⟩ = some (.int .i64 op) ∧ V.cell? ⟨b, off + k * 3 + 1, none⟩ = some (.int .i64 id) ∧ Bl w1 V) ((refine SK.out _ ?_; repeat (first | with_reducible assumption | with_reducible apply Bl.drew | with_reducible apply Bl.alloc))) (fail)
      have E6 := (At.new wr #[.int .i64 (op - 128), .int .i64 id, .int .i64 0, .int .i64 0] 62).drew
      have g6 : Bl wr (wr.alloc (.cells #[.int .i64 (op - 128), .int .i64 id, .int .i64 0, .int .i64 0] 62)).drew := ((Bl.refl wr).alloc _).drew
      generalize (wr.alloc (.cells #[.int .i64 (op - 128), .int .i64 id, .int .i64 0, .int .i64 0] 62)).drew = w6 at *
      obtain ⟨g, hg⟩ : ∃ g, g = wr.heap.size := ⟨_, rfl⟩
      rw [← hg] at E6 ⊢
      have hgw : w1.heap.size ≤ g := by rw [hg]; exact G.size
      have hgo : A = none ∨ ∃ q, A = some ⟨q, 0, none⟩ ∧ w1.heap.size ≤ q ∧ q < g := by rw [hg]; exact ow_lies own
      replace hg := Lib.hid hg
      have G6 := G.trans g6
      have own6 := own.bl g6
      clear SK own G x0 x1
      obtain ⟨k0, k1, k2, k3⟩ := cells4E E6
      by_cases hko : 0 ≤ op - 128 ∧ op - 128 ≤ 5
      case neg =>
        have hD := hno.out hko
        have ex := Lib.hid (fun V g => zn'.out (by rw [hD]; show ((12 : Int) ≠ 0); omega) V g)
        rw [hD] at ex
        clear zn' hst hno hst2 hD zn ze zz hM
        by_cases hlo : op - 128 < 0
        · clear hko
          go_wp2
          exact ex.out _ (g1.trans G6)
        · have hhi : 5 < op - 128 := by omega
          clear hko
          go_wp2
          exact ex.out _ (g1.trans G6)
      obtain ⟨N, hN⟩ : ∃ N : Nat, op - 128 = N := ⟨(op - 128).toNat, by omega⟩
      have hN6 : N < 6 := by omega
      obtain ⟨l, hl1, hl2⟩ := unR_ints hN6 body
      have hu9 : unR (efL N) body = (l.map vI, (unR (efL N) body).2) := Prod.ext hl1 rfl
      have hD := hst2.out N hN hN6 l _ hu9
      have cU := fun V (g : Bl w1 V) => (show Calls Tryd.prog 52 #[.string (efS N), .slice A5 body.length c5] V (RuQ V (l.map vI, (unR (efL N) body).2)) by
        have h3 := hi.out.by8
        have h4 := hi.out.len
        dsimp only at h3 h4
        have := runpack1 (efS N) A5 c5 body V (by have := (efL_ok hN6).2.2; show (efL N).length ≤ 1000; omega) (s5.2.2.2.bl g) h3 (by omega) s5.1 s5.2.1 s5.2.2.1
        rw [efS_list, hu9] at this
        exact this)
      have cF := fun V => formE1 N hN6 V
      rw [← hN] at cF
      unfold RuQ at cU
      generalize efS N = F at *
      generalize (unR (efL N) body).2 = E at *
      dsimp only at cU
      have SK : ∀ V, Bl w6 V → V.cell? ⟨g, 0, none⟩ = some (.int .i64 (op - 128)) ∧ V.cell? ⟨b, off + k * 3 + 2, none⟩ = some (.slice A5 body.length c5) ∧ Bl w6 V := fun V h => ⟨h.keep k0, h.keep (G6.keep x2), h⟩
      replace SK := Lib.hid SK
      have cU6 := Lib.hid fun V (h : Bl w6 V) => cU V (G6.trans h)
      replace cF := Lib.hid cF
      replace hD := Lib.hid hD
      generalize body.length = nb at *
      obtain ⟨ko1, ko2⟩ := hko
      clear hno hst2 hl1 hu9 cU hi hN hN6 s5 hM
      go_wp2
      go_region_held3 (fun V => V.cell? ⟨g, 0, none⟩ = some (.int .i64 (op - 128)) ∧ V.cell? ⟨b, off + k * 3 + 2, none⟩ = some (.slice A5 nb c5) ∧ Bl w6 V) ((refine SK.out _ ?_; repeat (first | with_reducible assumption | with_reducible exact Bl.refl _ | with_reducible exact G9 | with_reducible exact G8 | with_reducible apply Bl.drew | with_reducible apply Bl.alloc))) ((first | (go_at_call 59; (refine (cF.out _).mono ?_); rintro e V8 ⟨rfl, g8⟩; have G8 : Bl w6 V8 := (Bl.refl w6).drew.gr g8) | (go_at_call 52; (refine (cU6.out _ (by first | with_reducible assumption | with_reducible exact Bl.drew (by assumption))).mono ?_); rintro e V9 ⟨A9, c9, X9, rfl, hX9, hV9, g9⟩; have G9 : Bl w6 V9 := Bl.trans (by first | with_reducible assumption | with_reducible exact Bl.drew (by assumption)) g9) | fail))
      have E9 := E6.bl G9
      have own9 := own6.bl G9
      have GV := G6.trans G9
      have hX9l : X9.length = l.length := by have := congrArg List.length hX9; rwa [List.length_map, List.length_map] at this
      clear SK E6 own6 G6 G9 cU6 cF k0 k1 k2 k3
      by_cases hE : E = 0
      case neg =>
        have hD' := hD.out
        rw [if_neg hE] at hD'
        have ex := Lib.hid (fun V g => zn'.out (by rw [hD']; exact hE) V g)
        rw [hD'] at ex
        have hne : (E == 0) = false := by simpa using hE
        generalize X9.length = m9 at *
        clear zn' hst hD hD' zn ze zz hV9 hX9 hX9l hl2 E9
        go_wp2
        exact ex.out _ (g1.trans GV)
      case pos =>
        subst hE
        replace hD := hD.out
        rw [if_pos rfl] at hD
        obtain ⟨m, hm⟩ : ∃ m, m = X9.length := ⟨_, rfl⟩
        rw [← hm] at hX9l ⊢
        have h3 : m = 0 ∨ m = 1 ∨ m = 2 := by omega
        replace hm := Lib.hid hm
        replace hX9l := Lib.hid hX9l
        rcases h3 with rfl | rfl | rfl
        case inl =>
          have hn0 : l.getD 0 0 = 0 := by rw [List.getD_eq_getElem?_getD, List.getElem?_eq_none (by have := hX9l.out; omega)]; rfl
          have hn1 : l.getD 1 0 = 0 := by rw [List.getD_eq_getElem?_getD, List.getElem?_eq_none (by have := hX9l.out; omega)]; rfl
          rw [hn0, hn1] at hD
          have cM := fun V => reMay1 ⟨op - 128, id, 0, 0⟩ V
          unfold vE at cM
          dsimp only at cM
          clear hn0 hn1 hX9 hV9 hX9l hl2
          have EW := E9
          have ownW := own9
          have GW := GV
          clear E9 own9 GV
          go_upto_region 16 with fail
          clear x2
          obtain ⟨k0, k1, k2, k3⟩ := cells4E EW
          go_wp2_with fail
          refine (cM _).mono ?_
          rintro e w12 ⟨rfl, g12⟩
          have E12 := EW.bl g12
          have G12 := GW.trans g12
          have ow02 := ownW.bl g12
          clear k0 k1 k2 k3 cM EW GW ownW
          obtain ⟨k0, k1, k2, k3⟩ := cells4E E12
          cases hMB : mayE ⟨op - 128, id, 0, 0⟩ with
          | false =>
            rw [hMB, if_neg (by simp)] at hD
            have ex := Lib.hid (fun V g => zn'.out (by rw [hD]; show ((4 : Int) ≠ 0); omega) V g)
            rw [hD] at ex
            clear zn' hst hD zn ze zz
            go_wp2
            exact ex.out _ (g1.trans G12)
          | true =>
            rw [hMB, if_pos rfl] at hD
            have hs1 := hst.out (by rw [hD])
            rw [hD] at hs1
            replace hs1 := Lib.hid hs1
            have ow03 := ow02.bl ((Bl.refl w12).alloc (.cells #[.int .i64 (op - 128), .int .i64 id, .int .i64 0, .int .i64 0] 62))
            have E13 := At.new w12 #[.int .i64 (op - 128), .int .i64 id, .int .i64 0, .int .i64 0] 62
            have G13 := G12.alloc (.cells #[.int .i64 (op - 128), .int .i64 id, .int .i64 0, .int .i64 0] 62)
            clear zn' hst hD zn ze zz
            go_wp2_with (at_builtin; refine wp_app_re rfl (.tmp 80) (.tmp 82) rfl A c L rfl w1.heap.size ow03 w12.heap.size ⟨op - 128, id, 0, 0⟩ rfl E13 (by omega) G13.size ?_; intro A2 c2 w4 own4 by2; have G5 := app_bl by2 G13 (ow_lies ow03) (Nat.le_refl _))
            go_roundw
            case rel => exact ⟨k + 1, A2, c2, L ++ [⟨op - 128, id, 0, 0⟩], by omega, by simp, by go_num, own4, G5, hs1, by have := hLk.out; exact Lib.hid (by simp; omega)⟩
            case measure => simp [intOf]; omega
        case inr.inl =>
          obtain ⟨b9, o9, p9, rfl, hp9, hc9, _⟩ := hV9.at (k := 0) (by rw [← hm.out]; omega)
          have f0 := hc9.h1
          have e0 : p9.1.n = l.getD 0 0 := by
            have h1 : (X9.map Prod.fst)[0]? = some p9.1 := by rw [List.getElem?_map, hp9]; rfl
            rw [hX9, List.getElem?_map] at h1
            rw [List.getD_eq_getElem?_getD]
            cases hl0 : l[0]? with
            | none => rw [hl0] at h1; simp at h1
            | some x => rw [hl0] at h1; simp at h1; rw [← h1]; rfl
          rw [e0] at f0
          simp only [Nat.zero_mul, Nat.add_zero] at f0
          have hn1 : l.getD 1 0 = 0 := by rw [List.getD_eq_getElem?_getD, List.getElem?_eq_none (by have := hX9l.out; omega)]; rfl
          rw [hn1] at hD
          have cM := fun V => reMay1 ⟨op - 128, id, l.getD 0 0, 0⟩ V
          unfold vE at cM
          dsimp only at cM
          generalize l.getD 0 0 = n0 at *
          clear hX9 hV9 hc9 hp9 e0 hn1
          obtain ⟨j0, j1, j2, j3⟩ := cells4E E9
          have m2 := E9.free 2
          go_upto_region 16 with fail
          have hAg : A = none ∨ A.map (·.block) ≠ some g := by
            rcases hgo with h | ⟨q, h, _, hq⟩
            · exact .inl h
            · right; rw [h]; intro e; have e' : q = g := by simpa using e
              omega
          have EW := at2E E9 (.int .i64 n0)
          have GW := GV.setCell (p := ⟨g, 2, none⟩) hgw (.int .i64 n0)
          have ownW := own9.by (By.set (p := ⟨g, 2, none⟩) (By.refl V9 (some g)) (.int .i64 n0)) hAg
          generalize V9.setCell ⟨g, 2, none⟩ (.int .i64 n0) = W9 at *
          clear j0 j1 j2 j3 m2 f0 E9 GV own9
          clear x2
          obtain ⟨k0, k1, k2, k3⟩ := cells4E EW
          go_wp2_with fail
          refine (cM _).mono ?_
          rintro e w12 ⟨rfl, g12⟩
          have E12 := EW.bl g12
          have G12 := GW.trans g12
          have ow02 := ownW.bl g12
          clear k0 k1 k2 k3 cM EW GW ownW
          obtain ⟨k0, k1, k2, k3⟩ := cells4E E12
          cases hMB : mayE ⟨op - 128, id, n0, 0⟩ with
          | false =>
            rw [hMB, if_neg (by simp)] at hD
            have ex := Lib.hid (fun V g => zn'.out (by rw [hD]; show ((4 : Int) ≠ 0); omega) V g)
            rw [hD] at ex
            clear zn' hst hD zn ze zz
            go_wp2
            exact ex.out _ (g1.trans G12)
          | true =>
            rw [hMB, if_pos rfl] at hD
            have hs1 := hst.out (by rw [hD])
            rw [hD] at hs1
            replace hs1 := Lib.hid hs1
            have ow03 := ow02.bl ((Bl.refl w12).alloc (.cells #[.int .i64 (op - 128), .int .i64 id, .int .i64 n0, .int .i64 0] 62))
            have E13 := At.new w12 #[.int .i64 (op - 128), .int .i64 id, .int .i64 n0, .int .i64 0] 62
            have G13 := G12.alloc (.cells #[.int .i64 (op - 128), .int .i64 id, .int .i64 n0, .int .i64 0] 62)
            clear zn' hst hD zn ze zz
            go_wp2_with (at_builtin; refine wp_app_re rfl (.tmp 80) (.tmp 82) rfl A c L rfl w1.heap.size ow03 w12.heap.size ⟨op - 128, id, n0, 0⟩ rfl E13 (by omega) G13.size ?_; intro A2 c2 w4 own4 by2; have G5 := app_bl by2 G13 (ow_lies ow03) (Nat.le_refl _))
            go_roundw
            case rel => exact ⟨k + 1, A2, c2, L ++ [⟨op - 128, id, n0, 0⟩], by omega, by simp, by go_num, own4, G5, hs1, by have := hLk.out; exact Lib.hid (by simp; omega)⟩
            case measure => simp [intOf]; omega
        case inr.inr =>
          obtain ⟨b9, o9, p9, rfl, hp9, hc9, _⟩ := hV9.at (k := 0) (by rw [← hm.out]; omega)
          have f0 := hc9.h1
          have e0 : p9.1.n = l.getD 0 0 := by
            have h1 : (X9.map Prod.fst)[0]? = some p9.1 := by rw [List.getElem?_map, hp9]; rfl
            rw [hX9, List.getElem?_map] at h1
            rw [List.getD_eq_getElem?_getD]
            cases hl0 : l[0]? with
            | none => rw [hl0] at h1; simp at h1
            | some x => rw [hl0] at h1; simp at h1; rw [← h1]; rfl
          rw [e0] at f0
          simp only [Nat.zero_mul, Nat.add_zero] at f0
          obtain ⟨b8, o8, p8, hb8, hp8, hc8, _⟩ := hV9.at (k := 1) (by rw [← hm.out]; omega)
          have hbo : b9 = b8 ∧ o9 = o8 := by injection hb8 with hb8; injection hb8 with h1 h2; exact ⟨h1, h2⟩
          obtain ⟨rfl, rfl⟩ := hbo
          have f1 := hc8.h1
          have e1 : p8.1.n = l.getD 1 0 := by
            have h1 : (X9.map Prod.fst)[1]? = some p8.1 := by rw [List.getElem?_map, hp8]; rfl
            rw [hX9, List.getElem?_map] at h1
            rw [List.getD_eq_getElem?_getD]
            cases hl0 : l[1]? with
            | none => rw [hl0] at h1; simp at h1
            | some x => rw [hl0] at h1; simp at h1; rw [← h1]; rfl
          rw [e1] at f1
          simp only [Nat.one_mul] at f1
          have cM := fun V => reMay1 ⟨op - 128, id, l.getD 0 0, l.getD 1 0⟩ V
          unfold vE at cM
          dsimp only at cM
          have hne : b9 ≠ g := fun h => by
            subst h
            rw [E9.cell (o9 + 1)] at f0
            have hz := E9.cell o9
            have := hc9.h2
            simp only [Nat.zero_mul, Nat.add_zero] at this
            rw [E9.cell (o9 + 2)] at this
            match o9, this with
            | 0, h => simp at h
            | 1, h => simp at h
            | q + 2, h => simp at h
          generalize l.getD 0 0 = n0 at *
          generalize l.getD 1 0 = n1 at *
          clear hX9 hV9 hc9 hp9 hp8 hc8 hb8 e0 e1
          obtain ⟨j0, j1, j2, j3⟩ := cells4E E9
          have m2 := E9.free 2
          have m3 := E9.free 3
          go_upto_region 16 with fail
          have hAg : A = none ∨ A.map (·.block) ≠ some g := by
            rcases hgo with h | ⟨q, h, _, hq⟩
            · exact .inl h
            · right; rw [h]; intro e; have e' : q = g := by simpa using e
              omega
          have EW := at23E E9 (.int .i64 n0) (.int .i64 n1)
          have GW := (GV.setCell (p := ⟨g, 2, none⟩) hgw (.int .i64 n0)).setCell (p := ⟨g, 3, none⟩) hgw (.int .i64 n1)
          have ownW := own9.by (By.set (p := ⟨g, 3, none⟩) (By.set (p := ⟨g, 2, none⟩) (By.refl V9 (some g)) (.int .i64 n0)) (.int .i64 n1)) hAg
          generalize (V9.setCell ⟨g, 2, none⟩ (.int .i64 n0)).setCell ⟨g, 3, none⟩ (.int .i64 n1) = W9 at *
          clear j0 j1 j2 j3 m2 m3 f0 f1 E9 GV own9
          clear x2
          obtain ⟨k0, k1, k2, k3⟩ := cells4E EW
          go_wp2_with fail
          refine (cM _).mono ?_
          rintro e w12 ⟨rfl, g12⟩
          have E12 := EW.bl g12
          have G12 := GW.trans g12
          have ow02 := ownW.bl g12
          clear k0 k1 k2 k3 cM EW GW ownW
          obtain ⟨k0, k1, k2, k3⟩ := cells4E E12
          cases hMB : mayE ⟨op - 128, id, n0, n1⟩ with
          | false =>
            rw [hMB, if_neg (by simp)] at hD
            have ex := Lib.hid (fun V g => zn'.out (by rw [hD]; show ((4 : Int) ≠ 0); omega) V g)
            rw [hD] at ex
            clear zn' hst hD zn ze zz
            go_wp2
            exact ex.out _ (g1.trans G12)
          | true =>
            rw [hMB, if_pos rfl] at hD
            have hs1 := hst.out (by rw [hD])
            rw [hD] at hs1
            replace hs1 := Lib.hid hs1
            have ow03 := ow02.bl ((Bl.refl w12).alloc (.cells #[.int .i64 (op - 128), .int .i64 id, .int .i64 n0, .int .i64 n1] 62))
            have E13 := At.new w12 #[.int .i64 (op - 128), .int .i64 id, .int .i64 n0, .int .i64 n1] 62
            have G13 := G12.alloc (.cells #[.int .i64 (op - 128), .int .i64 id, .int .i64 n0, .int .i64 n1] 62)
            clear zn' hst hD zn ze zz
            go_wp2_with (at_builtin; refine wp_app_re rfl (.tmp 80) (.tmp 82) rfl A c L rfl w1.heap.size ow03 w12.heap.size ⟨op - 128, id, n0, n1⟩ rfl E13 (by omega) G13.size ?_; intro A2 c2 w4 own4 by2; have G5 := app_bl by2 G13 (ow_lies ow03) (Nat.le_refl _))
            go_roundw
            case rel => exact ⟨k + 1, A2, c2, L ++ [⟨op - 128, id, n0, n1⟩], by omega, by simp, by go_num, own4, G5, hs1, by have := hLk.out; exact Lib.hid (by simp; omega)⟩
            case measure => simp [intOf]; omega
    · obtain rfl : k = n := by omega
      have q1 : ¬ (k : Int) < k := by omega
      have hkm : ms.length ≤ k := by rw [← hnm.out]; exact Nat.le_refl _
      by_cases h0 : ee = 0
      · subst h0
        have hR := zz.out k L hu.out hkm rfl
        have ex : Z (.returned (.tuple #[.slice A L.length c, .int .i64 0])) wr := by
          rw [← hZ.out, hR]
          exact ⟨A, c, rfl, own.es, own.nilE, g1.trans G⟩
        replace ex := Lib.hid ex
        clear zn ze zz hM hR
        go_wp2
        exact ex.out
      · have ex := Lib.hid (ze.out k L hu.out hkm h0 wr (g1.trans G))
        have hne : (ee == 0) = false := by simpa using h0
        clear zn ze zz hM
        go_wp2
        exact ex.out

end Go.Proofs.YthkbenhlhldglaaDoor
