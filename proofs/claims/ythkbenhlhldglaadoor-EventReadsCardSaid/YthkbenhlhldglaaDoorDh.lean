/-
  What is proved: what Write of the document's package of events hands back of any row of events. No conditions but bounds.
-/
import Derived.Test.YthkbenhlhldglaaDoorDf
import Derived.Test.YthkbenhlhldglaaDoorDg
import Derived.Test.YthkbenhlhldglaaDoorUj
import Derived.Deep.RegionHeld3
namespace Go.Proofs.YthkbenhlhldglaaDoor
open Go.RowKit Go.Sort

theorem two_vv {w : World} {g : Nat} {a b : Int} {t : TypeId} (n : Nat) (hn : n ≤ 2) (h : At w g #[.int .i64 0, .int .i64 a, .string ⟨#[]⟩, .int .i64 0, .int .i64 0, .int .i64 0, .int .i64 0, .slice none 0 0, .int .i64 0, .int .i64 b, .string ⟨#[]⟩, .int .i64 0, .int .i64 0, .int .i64 0, .int .i64 0, .slice none 0 0] t) :
    Vv w (some ⟨g, 0, none⟩) (([(vI a, .slice none 0 0), (vI b, .slice none 0 0)] : List (Av × Value)).take n) := by
  refine ⟨.inr ⟨g, 0, rfl, fun k r hk j u hj => ?_⟩, fun p hp => ?_⟩
  · rw [List.getElem?_take] at hk
    split at hk
    · have hj8 : j < 8 := by
        rcases Nat.lt_or_ge j 8 with h' | h'
        · exact h'
        · rw [List.getElem?_eq_none (by rw [c8_len]; exact h')] at hj; cases hj
      rw [h.cell]
      have hk2 : k = 0 ∨ k = 1 := by omega
      rcases hk2 with rfl | rfl
      · simp at hk; subst hk
        rw [← hj]
        simp only [Nat.zero_add, Nat.zero_mul]
        have : j = 0 ∨ j = 1 ∨ j = 2 ∨ j = 3 ∨ j = 4 ∨ j = 5 ∨ j = 6 ∨ j = 7 := by omega
        rcases this with rfl | rfl | rfl | rfl | rfl | rfl | rfl | rfl <;> rfl
      · simp at hk; subst hk
        rw [← hj]
        simp only [Nat.zero_add, Nat.one_mul]
        have : j = 0 ∨ j = 1 ∨ j = 2 ∨ j = 3 ∨ j = 4 ∨ j = 5 ∨ j = 6 ∨ j = 7 := by omega
        rcases this with rfl | rfl | rfl | rfl | rfl | rfl | rfl | rfl <;> rfl
    · cases hk
  · have hp' := List.mem_of_mem_take hp
    simp at hp'
    rcases hp' with rfl | rfl
    · exact Sv.nil _
    · exact Sv.nil _
/-- Bytes that a call made, and owns. -/
def PackO (w : World) (r : List Int × Int) (e : Ending) (w' : World) : Prop := ∃ A' c', e = .returned (.tuple #[.slice A' r.1.length c', .int .i64 r.2]) ∧ OwB w' w.heap.size A' c' r.1 ∧ Bl w w'
theorem PackO.none {w w' : World} {k : Int} (h : Bl w w') : PackO w ([], k) (.returned (.tuple #[.slice none 0 0, .int .i64 k])) w' := ⟨Option.none, 0, rfl, OwB.nil _ _, h⟩
set_option maxRecDepth 100000 in
set_option maxHeartbeats 4000000 in
theorem reWriteO (A0 : Option Addr) (c0 : Nat) (l : List Ev) (w : World) (h0 : Es w A0 l) (hl : l.length ≤ 1000000) : Calls Tryd.prog 32 #[.slice A0 l.length c0] w (PackO w (wrB l)) := by
  have cm := fun e V => reMay1 e V
  have hno : ∀ k e, l[k]? = some e → ¬ okE e → ∀ V, Bl w V → PackO w (wrB l) (.returned (.tuple #[.slice none 0 0, .int .i64 1])) V := fun k e hk h V g => by
    rw [wrB_no hk h]; exact PackO.none g
  have hok : (∀ e ∈ l, okE e) → wrB l = (bytesE l, 0) := wrB_ok
  generalize hn : l.length = n at *
  generalize hW : PackO w (wrB l) = Z at *
  replace hW := Lib.hid hW
  replace hok := Lib.hid hok
  replace hno := Lib.hid hno
  replace hn := Lib.hid hn
  go_enter Tryd.func32, Tryd.ntmps32
  go_wp2
  go_loopw [4, 5] (fun o i wr => ∃ (k : Nat) (A : Option Addr) (c : Nat) (L : List Int), k ≤ n ∧ o = .slice A L.length c ∧ i = .int .i64 ((k : Nat) : Int) ∧ OwB wr w.heap.size A c L ∧ Bl w wr ∧ Hid (L = bytesE (l.take k)) ∧ Hid (∀ e ∈ l.take k, okE e)) (fun _ i _ => n - (intOf i).toNat)
  case atStart => exact ⟨0, none, 0, [], Nat.zero_le _, rfl, rfl, OwB.nil _ _, Bl.refl _, Lib.hid rfl, Lib.hid (by intro e he; simp at he)⟩
  case round =>
    obtain ⟨k, A, c, L, hk, rfl, rfl, own, G, hL, hall⟩ := hrel
    have hLl : L.length ≤ 15 * 1000000 := by
      have := bytesE_len (l.take k)
      rw [← hL.out, List.length_take] at this
      have := hn.out
      omega
    by_cases hlt : k < n
    · have q1 : (k : Int) < n := by omega
      obtain ⟨b, off, e, rfl, he, hc⟩ := (h0.bl G).at (k := k) (by rw [hn.out]; exact hlt)
      have ce := cm e
      have heb := Lib.hid (hno.out k e he)
      have htk := Lib.hid (take_snocE he)
      have hlen1 := (encE_len e).1
      by_cases hoe : okE e
      case neg =>
        have hme : mayE e = false := by unfold mayE; exact decide_eq_false hoe
        rw [hme] at ce
        have ex := Lib.hid (heb.out hoe)
        have F0 := hc.h0
        have F1 := hc.h1
        have F2 := hc.h2
        have F3 := hc.h3
        unfold vE at ce
        obtain ⟨ek, eid, ea, eb⟩ := e
        dsimp only at *
        clear heb htk he hoe hc hme hlen1
        go_wp2_with fail
        refine (ce _).mono ?_
        rintro e w1 ⟨rfl, g1⟩
        go_wp2
        exact ex.out _ (G.trans g1)
      case pos =>
        have hme : mayE e = true := (mayE_iff e).2 hoe
        rw [hme] at ce
        have hk6 := hoe.k
        have hall1 : ∀ e ∈ l.take (k + 1), okE e := by
          rw [htk.out]
          intro e he
          rcases List.mem_append.1 he with he | he
          · exact hall.out e he
          · rw [List.mem_singleton] at he; rw [he]; exact hoe
        have hL1 : L ++ encM (msE e) = bytesE (l.take (k + 1)) := by rw [htk.out, bytesE_snoc, hL.out]
        have hpk := pkR_ev hoe
        have hokm := okM_ev hoe
        have hbl := (bodyE_by e).2
        obtain ⟨N, hN⟩ : ∃ N : Nat, e.k = N := ⟨e.k.toNat, by omega⟩
        have hN6 : N < 6 := by omega
        have hkN : e.k.toNat = N := by omega
        have hl2 := (efL_ok hN6).2.2
        have hargs : argsE e = (([(vI e.a, .slice none 0 0), (vI e.b, .slice none 0 0)] : List (Av × Value)).take (efL N).length).map Prod.fst := by
          unfold argsE; rw [hkN, List.map_take]; rfl
        have hXl : (([(vI e.a, .slice none 0 0), (vI e.b, .slice none 0 0)] : List (Av × Value)).take (efL N).length).length = (efL N).length := by
          rw [List.length_take]; simp; omega
        have cF := fun V => formE1 N hN6 V
        rw [← hN] at cF
        have cP : ∀ V g0, At V g0 #[.int .i64 0, .int .i64 e.a, .string ⟨#[]⟩, .int .i64 0, .int .i64 0, .int .i64 0, .int .i64 0, .slice none 0 0, .int .i64 0, .int .i64 e.b, .string ⟨#[]⟩, .int .i64 0, .int .i64 0, .int .i64 0, .int .i64 0, .slice none 0 0] 88 → Calls Tryd.prog 42 #[.string (efS N), .slice (some ⟨g0, 0, none⟩) (efL N).length 2] V (PackQ V (bodyE e, 0)) := fun V g0 hA => by
          have := rpack1 (efS N) (some ⟨g0, 0, none⟩) 2 _ V (by show (efL N).length ≤ 1000; omega) (by rw [hXl]; omega) (two_vv (efL N).length hl2 hA)
          rw [← hargs, efS_list, ← hkN, hpk, hkN, hXl] at this
          exact this
        have cW := fun V A' c' (hs : Sv V (.slice A' (bodyE e).length c') (bodyE e)) => (show Calls Tryd.prog 24 #[.agg #[.int .i64 (128 + e.k), .int .i64 e.id, .slice A' (bodyE e).length c']] V (fun x V' => ∃ A2 c2, x = .returned (.tuple #[.slice A2 (encM (msE e)).length c2, .int .i64 0]) ∧ Sv V' (.slice A2 (encM (msE e)).length c2) (encM (msE e)) ∧ Bl V V') by
          obtain ⟨A2, c2, e0, e1, e2, e3, e4⟩ := hs
          injection e0 with i1 i2 i3
          subst i1 i3
          exact rwrite1 A' c' (msE e) V hokm e4 e1)
        have hsz : (efS N).size = (efL N).length := rfl
        generalize efS N = F at *
        generalize (efL N).length = m at *
        generalize encM (msE e) = E at *
        generalize bodyE e = BL at *
        replace hall1 := Lib.hid hall1
        replace hL1 := Lib.hid hL1
        clear heb htk he hoe hme hpk hokm hargs hXl hN hkN hN6
        unfold PackQ at cP
        unfold vE at ce
        obtain ⟨ek, eid, ea, eb⟩ := e
        have F0 := hc.h0
        have F1 := hc.h1
        have F2 := hc.h2
        have F3 := hc.h3
        dsimp only at *
        go_wp2_with fail
        refine (ce _).mono ?_
        rintro e w1 ⟨rfl, g1⟩
        have hc1 := hc.bl g1
        have G1 := G.trans g1
        clear F0 F1 F2 F3 ce
        have F0 := hc1.h0
        dsimp only at F0
        go_wp2_with fail
        refine (cF _).mono ?_
        rintro e w2 ⟨rfl, g2⟩
        have hc2 := hc1.bl g2.bl
        have G2 := G1.gr g2
        have own2 := (own.bl g1).bl g2.bl
        clear F0 cF hc hc1 own
        have SK : ∀ V, Bl w2 V → V.cell? ⟨b, off + k * 4 + 2, none⟩ = some (.int .i64 ea) ∧ V.cell? ⟨b, off + k * 4 + 3, none⟩ = some (.int .i64 eb) ∧ Bl w2 V := fun V g => ⟨(hc2.bl g).h2, (hc2.bl g).h3, g⟩
        replace SK := Lib.hid SK
        go_wp2
        go_region_held3 (fun V => V.cell? ⟨b, off + k * 4 + 2, none⟩ = some (.int .i64 ea) ∧ V.cell? ⟨b, off + k * 4 + 3, none⟩ = some (.int .i64 eb) ∧ Bl w2 V) ((refine SK.out _ ?_; repeat (first | with_reducible assumption | with_reducible exact Bl.refl _ | with_reducible apply Bl.drew | with_reducible apply Bl.alloc))) (fail)
        have B9 := (At.new w2 #[.int .i64 0, .int .i64 ea, .string ⟨#[]⟩, .int .i64 0, .int .i64 0, .int .i64 0, .int .i64 0, .slice none 0 0, .int .i64 0, .int .i64 eb, .string ⟨#[]⟩, .int .i64 0, .int .i64 0, .int .i64 0, .int .i64 0, .slice none 0 0] 88).drew
        have g9 : Bl w2 (w2.alloc (.cells #[.int .i64 0, .int .i64 ea, .string ⟨#[]⟩, .int .i64 0, .int .i64 0, .int .i64 0, .int .i64 0, .slice none 0 0, .int .i64 0, .int .i64 eb, .string ⟨#[]⟩, .int .i64 0, .int .i64 0, .int .i64 0, .int .i64 0, .slice none 0 0] 88)).drew := ((Bl.refl w2).alloc _).drew
        have cp9 := cP _ _ B9
        clear B9 cP SK
        go_wp2_with fail
        refine cp9.mono ?_
        rintro e w3 ⟨A3, c3, rfl, s3, g3⟩
        have G3 := (G2.trans g9).trans g3
        have hc3 := (hc2.bl g9).bl g3
        have own3 := (own2.bl g9).bl g3
        have cw3 := Lib.hid fun V (g : Bl w3 V) => cW V A3 c3 (s3.bl g)
        clear cp9 cW s3 hc2 own2 G2 g3 g9
        generalize BL.length = nb at *
        obtain ⟨k7, k8⟩ := hk6
        have hwr : IntKind.i64.wrap (128 + ek) = 128 + ek := IntWalk.i64_in _ (by omega)
        have SK : ∀ V, Bl w3 V → V.cell? ⟨b, off + k * 4, none⟩ = some (.int .i64 ek) ∧ V.cell? ⟨b, off + k * 4 + 1, none⟩ = some (.int .i64 eid) ∧ Bl w3 V := fun V g => ⟨(hc3.bl g).h0, (hc3.bl g).h1, g⟩
        replace SK := Lib.hid SK
        go_wp2
        go_region_held3 (fun V => V.cell? ⟨b, off + k * 4, none⟩ = some (.int .i64 ek) ∧ V.cell? ⟨b, off + k * 4 + 1, none⟩ = some (.int .i64 eid) ∧ Bl w3 V) ((refine SK.out _ ?_; repeat (first | with_reducible assumption | with_reducible exact Bl.refl _ | with_reducible exact G9 | with_reducible apply Bl.drew | with_reducible apply Bl.alloc))) ((first | (go_at_call 24; (refine (cw3.out _ (by first | with_reducible exact Bl.refl _ | with_reducible exact (Bl.refl _).drew)).mono ?_); rintro e V9 ⟨A9, c9, rfl, s9, g9⟩; have G9 : Bl w3 V9 := (Bl.refl w3).drew.trans g9) | fail))
        have own9 := own3.bl G9
        have GV : Bl w V9 := G3.trans G9
        obtain ⟨A', c', e0, e1, e2, e3, e4⟩ := s9
        injection e0 with i1 i2 i3
        subst i1 i3
        clear cw3 SK i2 e2 e3
        go_wp2_with (at_builtin; refine wp_app_b rfl (.tmp 71) (.tmp 72) rfl A c L rfl w.heap.size own9 A9 E c9 rfl e1 e4 (by omega) GV.size ?_; intro A2 c2 w4 own4 by2 _; have G4 := app_bl by2 GV own9.lies (Nat.le_refl _))
        go_roundw
        case rel => exact ⟨k + 1, A2, c2, L ++ E, by omega, by simp, by go_num, own4, G4, hL1, hall1⟩
        case measure => simp [intOf]; omega
    · obtain rfl : k = n := by omega
      have q1 : ¬ (k : Int) < k := by omega
      have e1 : l.take k = l := List.take_of_length_le (by rw [hn.out]; omega)
      rw [e1] at hL hall
      have ex : Z (.returned (.tuple #[.slice A L.length c, .int .i64 0])) wr := by
        rw [← hW.out, hok.out hall.out, ← hL.out]
        exact ⟨A, c, rfl, own, G⟩
      replace ex := Lib.hid ex
      go_wp2
      exact ex.out
theorem reWrite1 (A0 : Option Addr) (c0 : Nat) (l : List Ev) (w : World) (h0 : Es w A0 l) (hl : l.length ≤ 1000000) : Calls Tryd.prog 32 #[.slice A0 l.length c0] w (PackQ w (wrB l)) :=
  (reWriteO A0 c0 l w h0 hl).mono fun _ _ ⟨A, c, h1, h2, h3⟩ => ⟨A, c, h1, h2.sv, h3⟩

end Go.Proofs.YthkbenhlhldglaaDoor
