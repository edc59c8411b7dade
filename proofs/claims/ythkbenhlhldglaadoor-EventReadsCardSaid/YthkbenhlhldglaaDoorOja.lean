/-
  What is proved: what Split of the document's package of messages hands back. No conditions but bounds.
-/
import Derived.Test.YthkbenhlhldglaaDoorOi
import Derived.Test.YthkbenhlhldglaaDoorOf
namespace Go.Proofs.YthkbenhlhldglaaDoor
open Go.RowKit Go.Sort

set_option maxRecDepth 100000 in
set_option maxHeartbeats 4000000 in
theorem rsplit1 (A : Option Addr) (c : Nat) (L : List Int) (w : World) (hA : RwB w A L) (hc : L.length ≤ c) (hcm : c ≤ maxLen) (hb : ByL L) (hl : L.length ≤ 1000000) :
    Calls Tryd.prog 58 #[.slice A L.length c] w (SpQ w L (fun k => A.map (·.block) = some k)) := by
  have cr := fun (b off k : Nat) (V : World) (hr : RowB V b (off + k) (L.drop k)) => rread1 (some ⟨b, off + k, none⟩) (c - k) (L.drop k) V (.inr ⟨b, off + k, rfl, hr⟩) (by rw [List.length_drop]; omega) (by omega) (hb.drop k)
  have hlt : L.length ≠ 0 → ∃ b, A.map (·.block) = some b ∧ b < w.heap.size := fun h => by
    obtain ⟨b, off, rfl, hr⟩ := hA.opened (by omega)
    exact ⟨b, rfl, hr.lt (by omega)⟩
  have hdl := fun k => List.length_drop (l := L) (i := k)
  obtain ⟨n, hn⟩ : ∃ n, n = L.length := ⟨_, rfl⟩
  rw [← hn] at hc hl hlt ⊢
  simp only [← hn] at hdl
  simp only [hdl] at cr
  replace hcm := Lib.hid hcm
  replace hdl := Lib.hid hdl
  replace cr := Lib.hid cr
  replace hn := Lib.hid hn
  replace hlt := Lib.hid hlt
  clear hb
  go_enter Tryd.func58, Tryd.ntmps58
  go_wp2
  go_loopw [5, 6] (fun o i wr => ∃ (k : Nat) (A2 : Option Addr) (c2 : Nat) (X : List (Ms × Value)), k ≤ n ∧ o = .slice A2 X.length c2 ∧ i = .int .i64 k ∧ OwM wr w.heap.size A2 c2 X ∧ Hid (Upt L k X) ∧ Hid (∀ p ∈ X, p.1.body = [] ∨ ∃ k, p.2.ownBlock = some k ∧ A.map (·.block) = some k) ∧ Bl w wr) (fun _ i _ => n - (intOf i).toNat)
  case atStart => exact ⟨0, none, 0, [], Nat.zero_le _, rfl, rfl, OwM.nil _ _, Lib.hid (Upt.zero L), Lib.hid (by intro p hp; simp at hp), Bl.refl _⟩
  case round =>
    obtain ⟨k, A2, c2, X, hk, rfl, rfl, own, hup, hD, G⟩ := hrel
    have hX : X.length ≤ 1000000 := by have := hup.out.len; rw [← hn.out] at this; omega
    by_cases hlt2 : k < n
    · have q1 : (k : Int) < n := by omega
      have q3 : ¬ c = k := by omega
      have q4 : ¬ c ≤ k := by omega
      obtain ⟨b, off, rfl, hr⟩ := (hA.bl G).opened (by rw [← hn.out]; omega)
      have crk := cr.out b off k wr (hr.drop k)
      have hup1 := fun h v => hup.out.step (k := k) h v
      have hup2 := fun h => hup.out.bad (by rw [← hn.out]; exact hlt2) h
      have hrn := fun h => rdN_ok (b := L.drop k) h
      have hE3 : rdE (L.drop k) = 0 ∨ rdE (L.drop k) = 3 ∨ rdE (L.drop k) = 2 := rd_three (L.drop k)
      replace hE3 := Lib.hid hE3
      simp only [hdl.out] at hrn
      replace hup1 := Lib.hid hup1
      replace hup2 := Lib.hid hup2
      replace hrn := Lib.hid hrn
      obtain ⟨m, hm⟩ : ∃ m, m = rdM (L.drop k) := ⟨_, rfl⟩
      obtain ⟨N, hN⟩ : ∃ N, N = rdN (L.drop k) := ⟨_, rfl⟩
      obtain ⟨E, hE⟩ : ∃ E, E = rdE (L.drop k) := ⟨_, rfl⟩
      unfold RdQ at crk
      rw [← hm, ← hN, ← hE] at crk
      rw [← hm, ← hN, ← hE] at hup1
      rw [← hE] at hup2 hE3
      rw [← hN, ← hE] at hrn
      clear hm hN hE cr hr
      go_wp2_with fail
      refine crk.mono ?_
      rintro e w1 ⟨v, rfl, sv, fr, g1⟩
      have G1 := G.trans g1
      have own1 := own.bl g1
      have hf : m.body = [] ∨ A2 = none ∨ v.ownBlock ≠ A2.map (·.block) := by
        rcases fr with fr | ⟨kk, fr, fk⟩
        · exact .inl fr
        · rcases own.lies with h | ⟨gg, h, h1, h2⟩
          · exact .inr (.inl h)
          · right; right
            rw [fr, h]
            intro e
            have e' : kk = gg := by simpa using e
            have h9 := hlt.out (by omega)
            obtain ⟨b9, e9, l9⟩ := h9
            have h8 : b9 = kk := by simpa using e9.symm.trans fk
            omega
      have fD : m.body = [] ∨ ∃ k, v.ownBlock = some k ∧ (some (⟨b, off, none⟩ : Addr)).map (·.block) = some k := by
        rcases fr with fr | ⟨kk, fr, fk⟩
        · exact .inl fr
        · exact .inr ⟨kk, fr, fk⟩
      have sv9 := sv
      obtain ⟨Av, cv, hv, _⟩ := sv9
      subst hv
      have h3 := hE3.out
      rcases h3 with rfl | rfl | rfl
      · have hN := hrn.out rfl
        obtain ⟨hN1, hN2, hN3, hN4⟩ := hN
        clear hN4
        have hstep := Lib.hid (hup1.out rfl (.slice Av m.body.length cv))
        obtain ⟨mo, mi, mb⟩ := m
        dsimp only at *
        have sv2 := (sv.bl ((Bl.refl w1).alloc (.cells #[.int .i64 mo, .int .i64 mi, .slice Av mb.length cv] 24))).bl ((Bl.refl _).alloc (.cells #[.int .i64 mo, .int .i64 mi, .slice Av mb.length cv] 24))
        have own2 := (own1.bl ((Bl.refl w1).alloc (.cells #[.int .i64 mo, .int .i64 mi, .slice Av mb.length cv] 24))).bl ((Bl.refl _).alloc (.cells #[.int .i64 mo, .int .i64 mi, .slice Av mb.length cv] 24))
        have G2 : Bl w ((w1.alloc (.cells #[.int .i64 mo, .int .i64 mi, .slice Av mb.length cv] 24)).alloc (.cells #[.int .i64 mo, .int .i64 mi, .slice Av mb.length cv] 24)) := (G1.alloc _).alloc _
        have bb := At.newAt (w := w1.alloc (.cells #[.int .i64 mo, .int .i64 mi, .slice Av mb.length cv] 24)) (n := w1.heap.size + 1) (by simp) #[.int .i64 mo, .int .i64 mi, .slice Av mb.length cv] 24
        have mv := Mv.one (m := ⟨mo, mi, mb⟩) bb sv2
        have kN : (k : Int) + (N : Int) ≤ 1000000 := by omega
        go_wp2_with (at_builtin; refine wp_app_m rfl (.tmp 27) (.tmp 29) rfl A2 c2 X rfl w.heap.size own2 (some ⟨w1.heap.size + 1, 0, none⟩) [(⟨mo, mi, mb⟩, .slice Av mb.length cv)] 1 rfl (by simp) mv (by intro p hp; simp at hp; subst hp; exact hf) (by simp; omega) G2.size ?_; intro A3 c3 w3 own3 by3 _; have G3 := app_bl by3 G2 own2.lies (Nat.le_refl _))
        go_roundw
        case rel =>
          refine ⟨k + N, A3, c3, X ++ [(⟨mo, mi, mb⟩, .slice Av mb.length cv)], by omega, by simp, by simp, own3, hstep, Lib.hid ?_, G3⟩
          intro p hp
          rcases List.mem_append.1 hp with hp | hp
          · exact hD.out p hp
          · simp at hp; subst hp; exact fD
        case measure => simp [intOf]; omega
      · have hb2 := hup2.out (by decide)
        have ex : ∀ V, Bl w1 V → SpQ w L (fun k => (some (⟨b, off, none⟩ : Addr)).map (·.block) = some k) (.returned (.tuple #[.slice A2 X.length c2, .int .i64 (k : Nat), .int .i64 3])) V := fun V gV => ⟨A2, c2, X, by rw [hb2], by rw [hb2], (own1.bl gV).mv, (own_caps own.1).2.2, own.low, hD.out, G1.trans gV⟩
        replace ex := Lib.hid ex
        go_wp2
        go_ret3
        exact ex.out _ ((Bl.refl w1).alloc _)
      · have hb2 := hup2.out (by decide)
        have ex : ∀ V, Bl w1 V → SpQ w L (fun k => (some (⟨b, off, none⟩ : Addr)).map (·.block) = some k) (.returned (.tuple #[.slice A2 X.length c2, .int .i64 (k : Nat), .int .i64 2])) V := fun V gV => ⟨A2, c2, X, by rw [hb2], by rw [hb2], (own1.bl gV).mv, (own_caps own.1).2.2, own.low, hD.out, G1.trans gV⟩
        replace ex := Lib.hid ex
        go_wp2
        go_ret3
        exact ex.out _ ((Bl.refl w1).alloc _)
    · obtain rfl : k = n := by omega
      have ha : spl L = (X.map Prod.fst, k, 0) := by
        have := hup.out
        rw [hn.out] at this ⊢
        exact this.all
      have ex : SpQ w L (fun k => A.map (·.block) = some k) (.returned (.tuple #[.slice A2 X.length c2, .int .i64 (k : Nat), .int .i64 0])) wr := ⟨A2, c2, X, by rw [ha], by rw [ha], own.mv, (own_caps own.1).2.2, own.low, hD.out, G⟩
      replace ex := Lib.hid ex
      clear ha hup
      go_wp2
      go_ret3
      exact ex.out

end Go.Proofs.YthkbenhlhldglaaDoor
