/-
  What is proved: region.May tells of any list whether it is a region. No conditions but a bound on its length.
-/
import Derived.Test.YtafceieenhogpaaMk
namespace Go.Proofs.Ytafceieenhogpaa
open Go.RowKit Go.Sort

def MayQ (w : World) (L : List Rc) (e : Ending) (w' : World) : Prop := ∃ v : Bool, e = .returned (.bool v) ∧ (v = true ↔ mayP L) ∧ Bl w w'
theorem MayQ.no {w w' : World} {L : List Rc} (h : ¬ mayP L) (g : Bl w w') : MayQ w L (.returned (.bool false)) w' := ⟨false, rfl, ⟨fun h => absurd h (by decide), fun k => absurd k h⟩, g⟩
theorem MayQ.yes {w w' : World} {L : List Rc} (h : mayP L) (g : Bl w w') : MayQ w L (.returned (.bool true)) w' := ⟨true, rfl, ⟨fun _ => h, fun _ => rfl⟩, g⟩

set_option maxRecDepth 100000 in
set_option maxHeartbeats 8000000 in
theorem mayX1 (A : Option Addr) (c : Nat) (L : List Rc) (w : World) (hA : Rs w A L) (hl : L.length ≤ 1000000) :
    Calls Try.prog 10 #[.slice A L.length c] w (MayQ w L) := by
  have cB := fun w' h => bandsOf1 A c L w' h hl
  obtain ⟨n, hn⟩ : ∃ n, n = L.length := ⟨_, rfl⟩
  have hBad : ∀ i, i < n → ¬ okAt L i → ¬ mayP L := fun i hi h => may_bad (by omega) h
  have hBand : (∀ i, i < n → okAt L i) → (mayP L ↔ ∀ j p b, (bndL L L.length)[j]? = some p → (bndL L L.length)[j + 1]? = some b → goesB p b = false) ∧ (bndL L L.length).length ≤ n ∧ ∀ b ∈ bndL L L.length, (bandE b.y0 b.y1 b.E).length ≤ n := fun h => by
    have h' : ∀ i, i < L.length → okAt L i := fun i hi => h i (by omega)
    obtain ⟨hS, hR, _⟩ := bk_all h' L.length (Nat.le_refl _)
    rw [List.take_length] at hR
    have h2 := sk_le hS
    rw [hR] at h2
    exact ⟨may_bands h', by omega, fun b hb => by have := band_le _ b hb; rw [hR, ← hn] at this; exact this⟩
  replace hBad := Lib.hid hBad
  replace hBand := Lib.hid hBand
  rw [← hn] at hl cB ⊢
  replace hn := Lib.hid hn
  go_enter Try.func10, Try.ntmps10
  go_wp2
  go_loopw [9] (fun iv wr => ∃ k : Nat, k ≤ n ∧ iv = .int .i64 k ∧ Hid (∀ i, i < k → okAt L i) ∧ Bl w wr) (fun iv _ => n - (intOf iv).toNat)
  case atStart => exact ⟨0, Nat.zero_le _, rfl, Lib.hid (fun i h => absurd h (by omega)), Bl.refl w⟩
  case round =>
    obtain ⟨k, hk, rfl, hok, G⟩ := hrel
    by_cases hlt : k < n
    · have hiL : k < L.length := by have := hn.out; omega
      obtain ⟨⟨ra, rb, rc, rd⟩, hr⟩ := list_at hiL
      obtain ⟨b, off, rfl, hrow⟩ := hA.opened (by omega)
      obtain ⟨e1, e2, e3, e4⟩ := (hrow.bl G) k _ hr
      have hrk := rcAt_of hr
      dsimp only at e1 e2 e3 e4
      have c1 := fun w => empty1 ra rb rc rd w
      have lb := World.block_lt_of_cell? _ _ e1
      have X := At.new wr #[.int .i64 ra, .int .i64 rb, .int .i64 rc, .int .i64 rd] 24
      have G1 := G.alloc (.cells #[.int .i64 ra, .int .i64 rb, .int .i64 rc, .int .i64 rd] 24)
      cases hem : emptyB ra rb rc rd
      · rw [hem] at c1
        rcases Nat.eq_zero_or_pos k with h0 | h0
        · subst h0
          have hok1 : Hid (∀ i, i < 0 + 1 → okAt L i) := Lib.hid (fun i hi => by
            obtain rfl : i = 0 := by omega
            exact ⟨by rw [hrk]; exact hem, fun h => absurd h (by omega)⟩)
          replace hem := Lib.hid hem
          replace hrk := Lib.hid hrk
          simp only [Nat.zero_mul, Nat.add_zero] at e1 e2 e3 e4
          replace hr := Lib.hid hr
          go_wp2
          obtain ⟨V, hV⟩ : ∃ V, V = wr.alloc (.cells #[.int .i64 ra, .int .i64 rb, .int .i64 rc, .int .i64 rd] 24) := ⟨_, rfl⟩
          rw [← hV] at X G1 ⊢
          clear hV e1 e2 e3 e4
          have x0 := fun n os => X.cells n os 0; have x1 := fun n os => X.cells n os 1; have x2 := fun n os => X.cells n os 2; have x3 := fun n os => X.cells n os 3
          simp at x0 x1 x2 x3
          refine wp_region_quiet_grown (by kernel_rfl) (by kernel_rfl) ?_
          repeat (first | go_big_quiet_step ((go_at_call 46; exact Calls.grown (c1 _))) | quiet_step ((go_at_call 46; exact Calls.grown (c1 _))))
          refine wpQuiet_nil ?_
          intro W5 g9
          replace g9 : Gr _ W5 := g9
          clear x0 x1 x2 x3
          go_wp2
          go_roundw
          case rel => exact ⟨0 + 1, by omega, by go_num, hok1, G1.trans g9.bl⟩
          case measure => simp [intOf]; omega
        · obtain ⟨m, rfl⟩ : ∃ m, k = m + 1 := ⟨k - 1, by omega⟩
          obtain ⟨⟨pa, pb, pc, pd⟩, hp⟩ := list_at (l := L) (k := m) (by omega)
          have hpk := rcAt_of hp
          have c2 := fun w => follows1 ⟨pa, pb, pc, pd⟩ ⟨ra, rb, rc, rd⟩ w
          have E := fun n os => (hrow.bl ((G1.drewN n).grow os)) m _ hp
          have E1 := fun n os => (E n os).1
          have E2 := fun n os => (E n os).2.1
          have E3 := fun n os => (E n os).2.2.1
          have E4 := fun n os => (E n os).2.2.2
          clear E
          dsimp only at E1 E2 E3 E4 c2
          replace hr := Lib.hid hr
          replace hp := Lib.hid hp
          have hm : (m : Int) < n := by omega
          have q1 : IntKind.i64.wrap ((m : Int) + 1 - 1) = (m : Int) := by rw [show (m : Int) + 1 - 1 = (m : Int) from by omega]; exact IntWalk.i64_in _ (by omega)
          cases hf : flwB ⟨pa, pb, pc, pd⟩ ⟨ra, rb, rc, rd⟩
          · rw [hf] at c2
            have hno : ¬ okAt L (m + 1) := fun h => by
              have := h.2 (by omega)
              rw [Nat.add_sub_cancel, hpk, hrk, hf] at this
              cases this
            have hnm := hBad.out _ hlt hno
            replace hem := Lib.hid hem
            replace hf := Lib.hid hf
            replace hrk := Lib.hid hrk
            replace hpk := Lib.hid hpk
            replace hno := Lib.hid hno
            replace hnm := Lib.hid hnm
            go_wp2
            obtain ⟨V, hV⟩ : ∃ V, V = wr.alloc (.cells #[.int .i64 ra, .int .i64 rb, .int .i64 rc, .int .i64 rd] 24) := ⟨_, rfl⟩
            rw [← hV] at X G1 E1 E2 E3 E4 ⊢
            clear hV e1 e2 e3 e4
            have x0 := fun n os => X.cells n os 0; have x1 := fun n os => X.cells n os 1; have x2 := fun n os => X.cells n os 2; have x3 := fun n os => X.cells n os 3
            simp at x0 x1 x2 x3
            refine wp_region_quiet_grown (by kernel_rfl) (by kernel_rfl) ?_
            repeat (first | go_big_quiet_step (first | (go_at_call 46; exact Calls.grown (c1 _)) | (go_at_call 47; exact Calls.grown (c2 _))) | quiet_step (first | (go_at_call 46; exact Calls.grown (c1 _)) | (go_at_call 47; exact Calls.grown (c2 _))))
            refine wpQuiet_nil ?_
            intro W5 g9
            replace g9 : Gr _ W5 := g9
            clear x0 x1 x2 x3 E1 E2 E3 E4
            go_wp2
            go_ret
            exact MayQ.no hnm.out (G1.trans g9.bl)
          · rw [hf] at c2
            have hok1 : Hid (∀ i, i < m + 1 + 1 → okAt L i) := Lib.hid (fun i hi => by
              by_cases h : i < m + 1
              · exact hok.out i h
              · obtain rfl : i = m + 1 := by omega
                exact ⟨by rw [hrk]; exact hem, fun _ => by rw [Nat.add_sub_cancel, hpk, hrk]; exact hf⟩)
            replace hem := Lib.hid hem
            replace hf := Lib.hid hf
            replace hrk := Lib.hid hrk
            replace hpk := Lib.hid hpk
            go_wp2
            obtain ⟨V, hV⟩ : ∃ V, V = wr.alloc (.cells #[.int .i64 ra, .int .i64 rb, .int .i64 rc, .int .i64 rd] 24) := ⟨_, rfl⟩
            rw [← hV] at X G1 E1 E2 E3 E4 ⊢
            clear hV e1 e2 e3 e4
            have x0 := fun n os => X.cells n os 0; have x1 := fun n os => X.cells n os 1; have x2 := fun n os => X.cells n os 2; have x3 := fun n os => X.cells n os 3
            simp at x0 x1 x2 x3
            refine wp_region_quiet_grown (by kernel_rfl) (by kernel_rfl) ?_
            repeat (first | go_big_quiet_step (first | (go_at_call 46; exact Calls.grown (c1 _)) | (go_at_call 47; exact Calls.grown (c2 _))) | quiet_step (first | (go_at_call 46; exact Calls.grown (c1 _)) | (go_at_call 47; exact Calls.grown (c2 _))))
            refine wpQuiet_nil ?_
            intro W5 g9
            replace g9 : Gr _ W5 := g9
            clear x0 x1 x2 x3 E1 E2 E3 E4
            go_wp2
            go_roundw
            case rel => exact ⟨m + 1 + 1, by omega, by go_num, hok1, G1.trans g9.bl⟩
            case measure => simp [intOf]; omega
      · rw [hem] at c1
        have hnm := hBad.out k hlt (fun h => by have := h.1; rw [hrk] at this; rw [hem] at this; cases this)
        replace hem := Lib.hid hem
        replace hrk := Lib.hid hrk
        replace hr := Lib.hid hr
        replace hnm := Lib.hid hnm
        go_wp2
        obtain ⟨V, hV⟩ : ∃ V, V = wr.alloc (.cells #[.int .i64 ra, .int .i64 rb, .int .i64 rc, .int .i64 rd] 24) := ⟨_, rfl⟩
        rw [← hV] at X G1 ⊢
        clear hV e1 e2 e3 e4
        have x0 := fun n os => X.cells n os 0; have x1 := fun n os => X.cells n os 1; have x2 := fun n os => X.cells n os 2; have x3 := fun n os => X.cells n os 3
        simp at x0 x1 x2 x3
        refine wp_region_quiet_grown (by kernel_rfl) (by kernel_rfl) ?_
        repeat (first | go_big_quiet_step ((go_at_call 46; exact Calls.grown (c1 _))) | quiet_step ((go_at_call 46; exact Calls.grown (c1 _))))
        refine wpQuiet_nil ?_
        intro W5 g9
        replace g9 : Gr _ W5 := g9
        clear x0 x1 x2 x3
        go_wp2
        go_ret
        exact MayQ.no hnm.out (G1.trans g9.bl)
    · obtain rfl : k = n := by omega
      obtain ⟨hiff, hbn, hbe⟩ := hBand.out hok.out
      replace hiff := Lib.hid hiff
      go_wp2_with fail
      refine (cB _ (hA.bl G)).mono ?_
      rintro e W1 ⟨A1, cb, bs, rfl, own, hbs, g1⟩
      obtain ⟨hBs, hcb⟩ := own.bs
      have G1 := G.trans g1
      obtain ⟨nb, hnb⟩ : ∃ nb, nb = bs.length := ⟨_, rfl⟩
      have hbs' : bs.map BW.bn = bndL L L.length := hbs
      have hble : nb ≤ 1000000 := by
        rw [← hbs', List.length_map, ← hnb] at hbn
        omega
      have hEl : ∀ r ∈ bs, r.E.length ≤ 9223372036854775807 := fun r hr => by
        have hm : r.bn ∈ bndL L L.length := by rw [← hbs']; exact List.mem_map_of_mem hr
        have h1 := hbe r.bn hm
        rw [bandE_len] at h1
        have e : r.bn.E = r.E := rfl
        rw [e] at h1
        omega
      rw [← hnb] at hcb ⊢
      replace hbs' := Lib.hid hbs'
      replace hbs := Lib.hid hbs
      replace hEl := Lib.hid hEl
      replace hnb := Lib.hid hnb
      replace hbe := Lib.hid hbe
      replace hbn := Lib.hid hbn
      clear own g1 G cB
      go_wp2
      go_loopw [35] (fun iv w2 => ∃ k2 : Nat, k2 ≤ nb ∧ iv = .int .i64 k2 ∧ Hid (∀ j p b, j + 1 < k2 → (bndL L L.length)[j]? = some p → (bndL L L.length)[j + 1]? = some b → goesB p b = false) ∧ Bl W1 w2) (fun iv _ => nb - (intOf iv).toNat)
      case atStart => exact ⟨0, Nat.zero_le _, rfl, Lib.hid (fun j p b h => absurd h (by omega)), Bl.refl W1⟩
      case round =>
        obtain ⟨k2, hk2, rfl, hgo, G2⟩ := hrel
        by_cases hlt2 : k2 < nb
        · rcases Nat.eq_zero_or_pos k2 with h0 | h0
          · subst h0
            go_wp2
            refine wp_region_quiet_grown (by kernel_rfl) (by kernel_rfl) ?_
            repeat (first | go_big_quiet_step (fail) | quiet_step (fail))
            refine wpQuiet_nil ?_
            intro W5 g9
            replace g9 : Gr _ W5 := g9
            go_wp2
            go_roundw
            case rel => exact ⟨0 + 1, by omega, by go_num, Lib.hid (fun j p b h => absurd h (by omega)), G2.trans g9.bl⟩
            case measure => simp [intOf]; omega
          · obtain ⟨m, rfl⟩ : ∃ m, k2 = m + 1 := ⟨k2 - 1, by omega⟩
            obtain ⟨p, hp⟩ := list_at (l := bs) (k := m) (by have := hnb.out; omega)
            obtain ⟨r, hr⟩ := list_at (l := bs) (k := m + 1) (by have := hnb.out; omega)
            obtain ⟨b2, o2, hA2, hrow2⟩ := hBs.opened (by have := hnb.out; omega)
            subst hA2
            have hbp : (bndL L L.length)[m]? = some p.bn := by rw [← hbs'.out, List.getElem?_map, hp]; rfl
            have hbr : (bndL L L.length)[m + 1]? = some r.bn := by rw [← hbs'.out, List.getElem?_map, hr]; rfl
            have okp := hBs.2 p (List.mem_of_getElem? hp)
            have okr := hBs.2 r (List.mem_of_getElem? hr)
            have lp := hEl.out p (List.mem_of_getElem? hp)
            have lr := hEl.out r (List.mem_of_getElem? hr)
            have c3 : ∀ n os, Calls Try.prog 49 #[.agg #[.int .i64 p.y0, .int .i64 p.y1, .slice p.A p.E.length p.c], .agg #[.int .i64 r.y0, .int .i64 r.y1, .slice r.A r.E.length r.c]] _ _ := fun n os => goesOn1 p r (Go.Sort.grow (World.drewN wr n) os) (okp.bl ((G2.drewN n).grow os)) (okr.bl ((G2.drewN n).grow os)) lp lr
            have E := fun n os => (hrow2.bl ((G2.drewN n).grow os)).at_ hp
            have F := fun n os => (hrow2.bl ((G2.drewN n).grow os)).at_ hr
            have E1 := fun n os => (E n os).1
            have E2 := fun n os => (E n os).2.1
            have E3 := fun n os => (E n os).2.2
            have F1 := fun n os => (F n os).1
            have F2 := fun n os => (F n os).2.1
            have F3 := fun n os => (F n os).2.2
            replace hp := Lib.hid hp
            replace hr := Lib.hid hr
            have hm : (m : Int) < nb := by omega
            have hm1 : (m : Int) + 1 < nb := by omega
            have q1 : IntKind.i64.wrap ((m : Int) + 1 - 1) = (m : Int) := by rw [show (m : Int) + 1 - 1 = (m : Int) from by omega]; exact IntWalk.i64_in _ (by omega)
            clear E F okp okr lp lr
            cases hg : goesB p.bn r.bn
            · rw [hg] at c3
              have hgo1 : Hid (∀ j p' b', j + 1 < m + 1 + 1 → (bndL L L.length)[j]? = some p' → (bndL L L.length)[j + 1]? = some b' → goesB p' b' = false) := Lib.hid (fun j p' b' hj h1 h2 => by
                by_cases h : j + 1 < m + 1
                · exact hgo.out j p' b' h h1 h2
                · obtain rfl : j = m := by omega
                  rw [hbp] at h1
                  rw [hbr] at h2
                  injection h1 with h1
                  injection h2 with h2
                  rw [← h1, ← h2]; exact hg)
              replace hbp := Lib.hid hbp
              replace hbr := Lib.hid hbr
              replace hg := Lib.hid hg
              go_wp2
              refine wp_region_quiet_grown (by kernel_rfl) (by kernel_rfl) ?_
              repeat (first | go_big_quiet_step ((go_at_call 49; exact Calls.grown (c3 _ _))) | quiet_step ((go_at_call 49; exact Calls.grown (c3 _ _))))
              refine wpQuiet_nil ?_
              intro W5 g9
              replace g9 : Gr _ W5 := g9
              clear E1 E2 E3 F1 F2 F3 c3
              go_wp2
              go_roundw
              case rel => exact ⟨m + 1 + 1, by omega, by go_num, hgo1, G2.trans g9.bl⟩
              case measure => simp [intOf]; omega
            · rw [hg] at c3
              have hnm : Hid (¬ mayP L) := Lib.hid (fun h => by
                have := (hiff.out.1 h) m p.bn r.bn hbp hbr
                rw [hg] at this; cases this)
              replace hbp := Lib.hid hbp
              replace hbr := Lib.hid hbr
              replace hg := Lib.hid hg
              go_wp2
              refine wp_region_quiet_grown (by kernel_rfl) (by kernel_rfl) ?_
              repeat (first | go_big_quiet_step ((go_at_call 49; exact Calls.grown (c3 _ _))) | quiet_step ((go_at_call 49; exact Calls.grown (c3 _ _))))
              refine wpQuiet_nil ?_
              intro W5 g9
              replace g9 : Gr _ W5 := g9
              clear E1 E2 E3 F1 F2 F3 c3
              go_wp2
              go_ret
              exact MayQ.no hnm.out ((G1.trans G2).trans g9.bl)
        · have hyes : mayP L := hiff.out.2 (fun j p b h1 h2 => hgo.out j p b (by
            have := get_lt h2
            rw [← hbs'.out, List.length_map, ← hnb.out] at this
            omega) h1 h2)
          replace hyes := Lib.hid hyes
          go_wp2
          go_ret
          exact MayQ.yes hyes.out (G1.trans G2)

end Go.Proofs.Ytafceieenhogpaa
