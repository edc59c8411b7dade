/-
  What is proved: the document's own 'May' tells of any list whether it is a region. No conditions but bounds on its length.
-/
import Derived.Test.YtafceieenhogpaaMq
namespace Go.Proofs.Ytafceieenhogpaa
open Go.RowKit Go.Sort

theorem Rs.part {w : World} {b off : Nat} {L : List Rc} (h : RowR w b off L) (i k : Nat) : RowR w b (off + i * 4) ((L.drop i).take k) := ((h.half i).2.half k).1
set_option maxRecDepth 100000 in
set_option maxHeartbeats 16000000 in
theorem refmayX (A : Option Addr) (c : Nat) (L : List Rc) (w : World) (hA : Rs w A L) (hl : L.length ≤ 1000000) (hlc : L.length ≤ c) (hc : c ≤ 9223372036854775807) :
    Calls Try.prog 11 #[.slice A L.length c] w (MayQ w L) := by
  obtain ⟨n, hn⟩ : ∃ n, n = L.length := ⟨_, rfl⟩
  rw [← hn] at hl hlc ⊢
  replace hn := Lib.hid hn
  go_enter Try.func11, Try.ntmps11
  go_wp2
  go_loopw [3, 4] (fun v iv wr => ∃ (fr i : Nat), i ≤ n ∧ fr ≤ i ∧ v = .int .i64 fr ∧ iv = .int .i64 i ∧ Hid (DocI L fr i) ∧ Bl w wr) (fun _ iv _ => n - (intOf iv).toNat)
  case atStart => exact ⟨0, 0, Nat.zero_le _, Nat.le_refl _, rfl, rfl, Lib.hid (DocI.start L), Bl.refl w⟩
  case round =>
    obtain ⟨fr, i, hi, hfr, rfl, rfl, hM, G⟩ := hrel
    obtain ⟨V0, hV0⟩ : ∃ V0 : World, V0 = wr := ⟨_, rfl⟩
    subst hV0
    by_cases hlt : i < n
    · have hiL : i < L.length := by have := hn.out; omega
      obtain ⟨⟨ra, rb, rc, rd⟩, hr⟩ := list_at hiL
      obtain ⟨b, off, rfl, hrow⟩ := hA.opened (by omega)
      obtain ⟨e1, e2, e3, e4⟩ := (hrow.bl G) i _ hr
      have hrk := Lib.hid (rcAt_of hr)
      dsimp only at e1 e2 e3 e4
      have c1 := fun w => refempty1 ra rb rc rd w
      replace hr := Lib.hid hr
      have lb := World.block_lt_of_cell? _ _ e1
      cases hem : emptyB ra rb rc rd
      · rw [hem] at c1
        replace hem := Lib.hid hem
        go_wp2_with fail
        refine (c1 _).mono ?_
        rintro e W1 ⟨rfl, g1⟩
        have bx := (At.new V0 #[.int .i64 ra, .int .i64 rb, .int .i64 rc, .int .i64 rd] 24).bl g1.bl
        have G1 := (G.alloc (.cells #[.int .i64 ra, .int .i64 rb, .int .i64 rc, .int .i64 rd] 24)).trans g1.bl
        have sz1 := g1.bl.size
        clear e1 e2 e3 e4 lb g1 c1
        rcases Nat.eq_zero_or_pos i with h0 | h0
        · have hf0 := hM.out.zero h0
          subst h0 hf0
          have hM' : Hid (DocI L 0 (0 + 1)) := Lib.hid (DocI.first hiL (by rw [hrk.out]; exact hem.out))
          go_wp2
          go_roundw
          case rel => exact ⟨0, 0 + 1, by omega, by omega, rfl, by go_num, hM', G1⟩
          case measure => simp [intOf]; omega
        · have qz : ((i : Int) == 0) = false := by simp; omega
          obtain ⟨m, hm⟩ : ∃ m, m = i - 1 := ⟨i - 1, rfl⟩
          obtain ⟨⟨pa, pb, pc, pd⟩, hp⟩ := list_at (l := L) (k := m) (by omega)
          obtain ⟨f1, f2, f3, f4⟩ := (hrow.bl G1) m _ hp
          have hpk : Hid (rcAt L (i - 1) = ⟨pa, pb, pc, pd⟩) := Lib.hid (by rw [← hm]; exact rcAt_of hp)
          dsimp only at f1 f2 f3 f4
          have hpok := hM.out.ok (i - 1) (by omega)
          have hpne : pb < pd := by
            have := hpok.1
            rw [hpk.out] at this
            unfold emptyB at this; simp at this; omega
          clear hpok
          have q1 : IntKind.i64.wrap ((i : Int) - 1) = (m : Int) := by rw [show (i : Int) - 1 = (m : Int) from by omega]; exact IntWalk.i64_in _ (by omega)
          have q3 : m < n := by omega
          replace hm := Lib.hid hm
          have k0 : W1.cell? ⟨V0.heap.size, 0, none⟩ = some (.int .i64 ra) := bx.cell 0
          have k1 : W1.cell? ⟨V0.heap.size, 1, none⟩ = some (.int .i64 rb) := bx.cell 1
          have k3 : W1.cell? ⟨V0.heap.size, 3, none⟩ = some (.int .i64 rd) := bx.cell 3
          have lx := bx.lt
          have lb := World.block_lt_of_cell? _ _ f1
          replace hp := Lib.hid hp
          have hbadk : flwB ⟨pa, pb, pc, pd⟩ ⟨ra, rb, rc, rd⟩ = false → Hid (¬ mayP L) := fun h => Lib.hid (may_bad hiL (fun k => by
            have := k.2 h0
            rw [hpk.out, hrk.out, h] at this
            cases this))
          have hokk : flwB ⟨pa, pb, pc, pd⟩ ⟨ra, rb, rc, rd⟩ = true → Hid (okAt L i) := fun h => Lib.hid ⟨by rw [hrk.out]; exact hem.out, fun _ => by rw [hpk.out, hrk.out]; exact h⟩
          by_cases hsb : pb = rb
          · by_cases hsd : pd = rd
            · by_cases hca : ra ≤ pc
              · have hnm := hbadk (by unfold flwB; dsimp only; rw [if_pos ⟨hsb, hsd⟩]; exact decide_eq_false (by omega))
                subst hsb hsd
                clear hbadk hokk
                have q2 : decide (ra ≤ pc) = true := by simpa using hca
                go_wp2
                go_ret
                exact MayQ.no hnm.out (G1.alloc _)
              · have hok := hokk (by unfold flwB; dsimp only; rw [if_pos ⟨hsb, hsd⟩]; exact decide_eq_true (by omega))
                have hM' : Hid (DocI L fr (i + 1)) := Lib.hid (hM.out.go h0 hiL (by rw [hpk.out, hrk.out]; exact ⟨hsb, hsd⟩) hok.out)
                subst hsb hsd
                clear hbadk hokk
                have q2 : decide (ra ≤ pc) = false := by simpa using hca
                go_wp2
                go_roundw
                case rel => exact ⟨fr, i + 1, by omega, by omega, rfl, by go_num, hM', G1.alloc _⟩
                case measure => simp [intOf]; omega
            · have hnm := hbadk (by unfold flwB; dsimp only; rw [if_neg (fun h => hsd h.2)]; exact decide_eq_false (by omega))
              have q4 : (pd == rd) = false := by simpa using hsd
              have q2 : decide (rb < pd) = true := by simp; omega
              subst hsb
              clear hbadk hokk hsd
              go_wp2
              go_ret
              exact MayQ.no hnm.out (G1.alloc _)
          · have q4 : (pb == rb) = false := by simpa using hsb
            by_cases hgt : rb < pd
            · have hnm := hbadk (by unfold flwB; dsimp only; rw [if_neg (fun h => hsb h.1)]; exact decide_eq_false (by omega))
              have q2 : decide (rb < pd) = true := by simpa using hgt
              clear hbadk hokk
              replace hsb := Lib.hid hsb
              go_wp2
              go_ret
              exact MayQ.no hnm.out (G1.alloc _)
            · have hok := hokk (by unfold flwB; dsimp only; rw [if_neg (fun h => hsb h.1)]; exact decide_eq_true (by omega))
              have q2 : decide (rb < pd) = false := by simpa using hgt
              have hns : Hid (¬ same (rcAt L (i - 1)) (rcAt L i)) := Lib.hid (fun h => hsb (by have := h.1; rw [hpk.out, hrk.out] at this; exact this))
              clear hbadk hokk
              replace hsb := Lib.hid hsb
              go_wp2
              go_loopw [7] (fun ev w2 => ∃ e : Nat, i ≤ e ∧ e ≤ n ∧ ev = .int .i64 e ∧ Hid (∀ j, i ≤ j → j < e → same (rcAt L i) (rcAt L j)) ∧ Bl w w2 ∧ At w2 V0.heap.size #[.int .i64 ra, .int .i64 rb, .int .i64 rc, .int .i64 rd] 24 ∧ At w2 W1.heap.size #[.int .i64 pa, .int .i64 pb, .int .i64 pc, .int .i64 pd] 24) (fun ev _ => n - (intOf ev).toNat)
              case atStart => exact ⟨i, Nat.le_refl _, by omega, rfl, Lib.hid (fun j h1 h2 => absurd h2 (by omega)), G1.alloc _, bx.alloc _, At.new _ _ _⟩
              case round =>
                obtain ⟨e, he1, he2, rfl, hal, G2, bx2, bp2⟩ := hrel
                have kk1 : ∀ n os, (grow (wr.drewN n) os).cell? ⟨V0.heap.size, 1, none⟩ = some (.int .i64 rb) := fun n os => bx2.cells n os 1
                have kk3 : ∀ n os, (grow (wr.drewN n) os).cell? ⟨V0.heap.size, 3, none⟩ = some (.int .i64 rd) := fun n os => bx2.cells n os 3
                clear k0 k1 k3 f1 f2 f3 f4
                by_cases hen : e < n
                · obtain ⟨⟨sa, sb, sc, sd⟩, hs⟩ := list_at (l := L) (k := e) (by have := hn.out; omega)
                  have hsk := rcAt_of hs
                  have E := fun n os => (hrow.bl ((G2.drewN n).grow os)) e _ hs
                  have E2 := fun n os => (E n os).2.1
                  have E4 := fun n os => (E n os).2.2.2
                  clear E
                  dsimp only at E2 E4
                  replace hs := Lib.hid hs
                  by_cases hb1 : sb = rb
                  · by_cases hd1 : sd = rd
                    · have hal1 : Hid (∀ j, i ≤ j → j < e + 1 → same (rcAt L i) (rcAt L j)) := Lib.hid (fun j h1 h2 => by
                        by_cases h : j < e
                        · exact hal.out j h1 h
                        · obtain rfl : j = e := by omega
                          rw [hrk.out, hsk]; exact ⟨hb1.symm, hd1.symm⟩)
                      subst hb1 hd1
                      replace hsk := Lib.hid hsk
                      go_wp2
                      refine wp_region_quiet_grown (by kernel_rfl) (by kernel_rfl) ?_
                      repeat (first | go_big_quiet_step (fail) | quiet_step (fail))
                      refine wpQuiet_nil ?_
                      intro W2 g8
                      replace g8 : Gr _ W2 := g8
                      clear E2 E4 kk1 kk3
                      go_wp2
                      go_roundw
                      case rel => exact ⟨e + 1, by omega, by omega, by go_num, hal1, G2.trans g8.bl, bx2.gr g8, bp2.gr g8⟩
                      case measure => simp [intOf]; omega
                    · have hie : i < e := by
                        rcases Nat.lt_or_ge i e with h | h
                        · exact h
                        · exfalso
                          obtain rfl : e = i := by omega
                          rw [hrk.out] at hsk; injection hsk with h1 h2 h3 h4; exact hd1 h4.symm
                      have hrun : Hid (Run L i e) := Lib.hid ⟨⟨hie, by have := hn.out; omega, hal.out⟩, .inr hns.out, .inr (fun h => hd1 (by have := h.2; rw [hrk.out, hsk] at this; exact this.symm))⟩
                      have q9' : (sd == rd) = false := by simpa using hd1
                      have hb1' := hb1.symm
                      subst hb1'
                      clear hd1 hal hb1
                      replace hsk := Lib.hid hsk
                      go_wp2
                      refine wp_region_quiet_grown (by kernel_rfl) (by kernel_rfl) ?_
                      repeat (first | go_big_quiet_step (fail) | quiet_step (fail))
                      refine wpQuiet_nil ?_
                      intro W2 g8
                      replace g8 : Gr _ W2 := g8
                      clear E2 E4 kk1 kk3
                      have t1 : W2.cell? ⟨V0.heap.size, 1, none⟩ = some (.int .i64 rb) := (bx2.gr g8).cell 1
                      have t3 : W2.cell? ⟨W1.heap.size, 3, none⟩ = some (.int .i64 pd) := (bp2.gr g8).cell 3
                      have l1 := (bx2.gr g8).lt
                      have l3 := (bp2.gr g8).lt
                      have G3 := G2.trans g8.bl
                      have T1 := fun n os => (bx2.gr g8).cells n os 1
                      have T3 := fun n os => (bp2.gr g8).cells n os 3
                      simp at T1 T3
                      by_cases hpd : pd = rb
                      · have r1 : RowR W2 b (off + fr * 4) ((L.drop fr).take (i - fr)) := Rs.part (hrow.bl G3) fr (i - fr)
                        have r2 : RowR W2 b (off + i * 4) ((L.drop i).take (e - i)) := Rs.part (hrow.bl G3) i (e - i)
                        have len1 : ((L.drop fr).take (i - fr)).length = i - fr := by have := hn.out; rw [List.length_take, List.length_drop]; omega
                        have len2 : ((L.drop i).take (e - i)).length = e - i := by have := hn.out; rw [List.length_take, List.length_drop]; omega
                        have csp := fun (cc dd : Nat) (w : World) (h1 : Rs w (some ⟨b, off + fr * 4, none⟩) ((L.drop fr).take (i - fr))) (h2 : Rs w (some ⟨b, off + i * 4, none⟩) ((L.drop i).take (e - i))) => refspans1 (some ⟨b, off + fr * 4, none⟩) (some ⟨b, off + i * 4, none⟩) cc dd _ _ w h1 h2 (by rw [len1]; omega) (by rw [len2]; omega)
                        rw [len1, len2] at csp
                        replace r1 : ∀ W3, Bl W2 W3 → RowR W3 b (off + fr * 4) ((L.drop fr).take (i - fr)) := fun W3 g => r1.bl g
                        replace r2 : ∀ W3, Bl W2 W3 → RowR W3 b (off + i * 4) ((L.drop i).take (e - i)) := fun W3 g => r2.bl g
                        cases hsp : spansB ((L.drop fr).take (i - fr)) ((L.drop i).take (e - i))
                        all_goals
                          rw [hsp] at csp
                        · have hD1 : Hid (DocI L i (i + 1)) := Lib.hid (hM.out.next h0 (by have := hn.out; omega) hns.out hok.out hrun.out (fun h => by rw [hsp] at h; cases h.2))
                          obtain ⟨La, hLa⟩ : ∃ x, x = (L.drop fr).take (i - fr) := ⟨_, rfl⟩
                          obtain ⟨Lb, hLb⟩ : ∃ x, x = (L.drop i).take (e - i) := ⟨_, rfl⟩
                          rw [← hLa, ← hLb] at csp
                          rw [← hLa] at r1
                          rw [← hLb] at r2
                          clear hLa hLb len1 len2 hsp hM
                          subst hpd
                          have p1 : fr ≤ n := by omega
                          have p2 : (i : Int) ≤ (n : Int) := by omega
                          have p3 : (fr : Int) ≤ (i : Int) := by omega
                          have p4 : (i : Int) ≤ (e : Int) := by omega
                          have p5 : (e : Int) ≤ (n : Int) := by omega
                          have p6 : (n : Int) ≤ (c : Int) := by omega
                          have p7 : (i : Int) ≤ (c : Int) := by omega
                          have p8 : (e : Int) ≤ (c : Int) := by omega
                          have p9 : (fr : Int) ≤ (c : Int) := by omega
                          clear t1 t3
                          go_wp2
                          refine wp_region_quiet_grown (by kernel_rfl) (by kernel_rfl) ?_
                          repeat (first | go_big_quiet_step ((go_at_call 51; exact Calls.grown (csp _ _ _ (.inr ⟨b, off + fr * 4, rfl, r1 _ (((Bl.refl _).drewN _).grow _)⟩) (.inr ⟨b, off + i * 4, rfl, r2 _ (((Bl.refl _).drewN _).grow _)⟩)))) | quiet_step ((go_at_call 51; exact Calls.grown (csp _ _ _ (.inr ⟨b, off + fr * 4, rfl, r1 _ (((Bl.refl _).drewN _).grow _)⟩) (.inr ⟨b, off + i * 4, rfl, r2 _ (((Bl.refl _).drewN _).grow _)⟩)))))
                          refine wpQuiet_nil ?_
                          intro W5 g8
                          replace g8 : Gr _ W5 := g8
                          have G4 := G3.trans g8.bl
                          clear T1 T3 csp r1 r2
                          go_wp2
                          go_roundw
                          case rel => exact ⟨i, i + 1, by omega, by omega, rfl, by go_num, hD1, G4⟩
                          case measure => simp [intOf]; omega
                        · have hnm : Hid (¬ mayP L) := Lib.hid (hM.out.bad h0 (by have := hn.out; omega) hns.out hrun.out ⟨by rw [hpk.out, hrk.out]; exact hpd, hsp⟩)
                          obtain ⟨La, hLa⟩ : ∃ x, x = (L.drop fr).take (i - fr) := ⟨_, rfl⟩
                          obtain ⟨Lb, hLb⟩ : ∃ x, x = (L.drop i).take (e - i) := ⟨_, rfl⟩
                          rw [← hLa, ← hLb] at csp
                          rw [← hLa] at r1
                          rw [← hLb] at r2
                          clear hLa hLb len1 len2 hsp hM
                          subst hpd
                          have p1 : fr ≤ n := by omega
                          have p2 : (i : Int) ≤ (n : Int) := by omega
                          have p3 : (fr : Int) ≤ (i : Int) := by omega
                          have p4 : (i : Int) ≤ (e : Int) := by omega
                          have p5 : (e : Int) ≤ (n : Int) := by omega
                          have p6 : (n : Int) ≤ (c : Int) := by omega
                          have p7 : (i : Int) ≤ (c : Int) := by omega
                          have p8 : (e : Int) ≤ (c : Int) := by omega
                          have p9 : (fr : Int) ≤ (c : Int) := by omega
                          clear t1 t3
                          go_wp2
                          refine wp_region_quiet_grown (by kernel_rfl) (by kernel_rfl) ?_
                          repeat (first | go_big_quiet_step ((go_at_call 51; exact Calls.grown (csp _ _ _ (.inr ⟨b, off + fr * 4, rfl, r1 _ (((Bl.refl _).drewN _).grow _)⟩) (.inr ⟨b, off + i * 4, rfl, r2 _ (((Bl.refl _).drewN _).grow _)⟩)))) | quiet_step ((go_at_call 51; exact Calls.grown (csp _ _ _ (.inr ⟨b, off + fr * 4, rfl, r1 _ (((Bl.refl _).drewN _).grow _)⟩) (.inr ⟨b, off + i * 4, rfl, r2 _ (((Bl.refl _).drewN _).grow _)⟩)))))
                          refine wpQuiet_nil ?_
                          intro W5 g8
                          replace g8 : Gr _ W5 := g8
                          clear T1 T3 csp r1 r2
                          go_wp2
                          go_ret
                          exact MayQ.no hnm.out (G3.trans g8.bl)
                      · have hD1 : Hid (DocI L i (i + 1)) := Lib.hid (hM.out.next h0 (by have := hn.out; omega) hns.out hok.out hrun.out (fun h => hpd (by have := h.1; rw [hpk.out, hrk.out] at this; exact this)))
                        have q9 : (pd == rb) = false := by simpa using hpd
                        clear t1 t3 hM
                        go_wp2
                        refine wp_region_quiet_grown (by kernel_rfl) (by kernel_rfl) ?_
                        repeat (first | go_big_quiet_step (fail) | quiet_step (fail))
                        refine wpQuiet_nil ?_
                        intro W5 g8
                        replace g8 : Gr _ W5 := g8
                        have G4 := G3.trans g8.bl
                        clear T1 T3
                        go_wp2
                        go_roundw
                        case rel => exact ⟨i, i + 1, by omega, by omega, rfl, by go_num, hD1, G4⟩
                        case measure => simp [intOf]; omega
                  · have hie : i < e := by
                      rcases Nat.lt_or_ge i e with h | h
                      · exact h
                      · exfalso
                        obtain rfl : e = i := by omega
                        rw [hrk.out] at hsk; injection hsk with h1 h2 h3 h4; exact hb1 h2.symm
                    have hrun : Hid (Run L i e) := Lib.hid ⟨⟨hie, by have := hn.out; omega, hal.out⟩, .inr hns.out, .inr (fun h => hb1 (by have := h.1; rw [hrk.out, hsk] at this; exact this.symm))⟩
                    have q8 : (sb == rb) = false := by simpa using hb1
                    clear hb1 hal
                    replace hsk := Lib.hid hsk
                    go_wp2
                    refine wp_region_quiet_grown (by kernel_rfl) (by kernel_rfl) ?_
                    repeat (first | go_big_quiet_step (fail) | quiet_step (fail))
                    refine wpQuiet_nil ?_
                    intro W2 g8
                    replace g8 : Gr _ W2 := g8
                    clear E2 E4 kk1 kk3
                    have t1 : W2.cell? ⟨V0.heap.size, 1, none⟩ = some (.int .i64 rb) := (bx2.gr g8).cell 1
                    have t3 : W2.cell? ⟨W1.heap.size, 3, none⟩ = some (.int .i64 pd) := (bp2.gr g8).cell 3
                    have l1 := (bx2.gr g8).lt
                    have l3 := (bp2.gr g8).lt
                    have G3 := G2.trans g8.bl
                    have T1 := fun n os => (bx2.gr g8).cells n os 1
                    have T3 := fun n os => (bp2.gr g8).cells n os 3
                    simp at T1 T3
                    by_cases hpd : pd = rb
                    · have r1 : RowR W2 b (off + fr * 4) ((L.drop fr).take (i - fr)) := Rs.part (hrow.bl G3) fr (i - fr)
                      have r2 : RowR W2 b (off + i * 4) ((L.drop i).take (e - i)) := Rs.part (hrow.bl G3) i (e - i)
                      have len1 : ((L.drop fr).take (i - fr)).length = i - fr := by have := hn.out; rw [List.length_take, List.length_drop]; omega
                      have len2 : ((L.drop i).take (e - i)).length = e - i := by have := hn.out; rw [List.length_take, List.length_drop]; omega
                      have csp := fun (cc dd : Nat) (w : World) (h1 : Rs w (some ⟨b, off + fr * 4, none⟩) ((L.drop fr).take (i - fr))) (h2 : Rs w (some ⟨b, off + i * 4, none⟩) ((L.drop i).take (e - i))) => refspans1 (some ⟨b, off + fr * 4, none⟩) (some ⟨b, off + i * 4, none⟩) cc dd _ _ w h1 h2 (by rw [len1]; omega) (by rw [len2]; omega)
                      rw [len1, len2] at csp
                      replace r1 : ∀ W3, Bl W2 W3 → RowR W3 b (off + fr * 4) ((L.drop fr).take (i - fr)) := fun W3 g => r1.bl g
                      replace r2 : ∀ W3, Bl W2 W3 → RowR W3 b (off + i * 4) ((L.drop i).take (e - i)) := fun W3 g => r2.bl g
                      cases hsp : spansB ((L.drop fr).take (i - fr)) ((L.drop i).take (e - i))
                      all_goals
                        rw [hsp] at csp
                      · have hD1 : Hid (DocI L i (i + 1)) := Lib.hid (hM.out.next h0 (by have := hn.out; omega) hns.out hok.out hrun.out (fun h => by rw [hsp] at h; cases h.2))
                        obtain ⟨La, hLa⟩ : ∃ x, x = (L.drop fr).take (i - fr) := ⟨_, rfl⟩
                        obtain ⟨Lb, hLb⟩ : ∃ x, x = (L.drop i).take (e - i) := ⟨_, rfl⟩
                        rw [← hLa, ← hLb] at csp
                        rw [← hLa] at r1
                        rw [← hLb] at r2
                        clear hLa hLb len1 len2 hsp hM
                        subst hpd
                        have p1 : fr ≤ n := by omega
                        have p2 : (i : Int) ≤ (n : Int) := by omega
                        have p3 : (fr : Int) ≤ (i : Int) := by omega
                        have p4 : (i : Int) ≤ (e : Int) := by omega
                        have p5 : (e : Int) ≤ (n : Int) := by omega
                        have p6 : (n : Int) ≤ (c : Int) := by omega
                        have p7 : (i : Int) ≤ (c : Int) := by omega
                        have p8 : (e : Int) ≤ (c : Int) := by omega
                        have p9 : (fr : Int) ≤ (c : Int) := by omega
                        clear t1 t3
                        go_wp2
                        refine wp_region_quiet_grown (by kernel_rfl) (by kernel_rfl) ?_
                        repeat (first | go_big_quiet_step ((go_at_call 51; exact Calls.grown (csp _ _ _ (.inr ⟨b, off + fr * 4, rfl, r1 _ (((Bl.refl _).drewN _).grow _)⟩) (.inr ⟨b, off + i * 4, rfl, r2 _ (((Bl.refl _).drewN _).grow _)⟩)))) | quiet_step ((go_at_call 51; exact Calls.grown (csp _ _ _ (.inr ⟨b, off + fr * 4, rfl, r1 _ (((Bl.refl _).drewN _).grow _)⟩) (.inr ⟨b, off + i * 4, rfl, r2 _ (((Bl.refl _).drewN _).grow _)⟩)))))
                        refine wpQuiet_nil ?_
                        intro W5 g8
                        replace g8 : Gr _ W5 := g8
                        have G4 := G3.trans g8.bl
                        clear T1 T3 csp r1 r2
                        go_wp2
                        go_roundw
                        case rel => exact ⟨i, i + 1, by omega, by omega, rfl, by go_num, hD1, G4⟩
                        case measure => simp [intOf]; omega
                      · have hnm : Hid (¬ mayP L) := Lib.hid (hM.out.bad h0 (by have := hn.out; omega) hns.out hrun.out ⟨by rw [hpk.out, hrk.out]; exact hpd, hsp⟩)
                        obtain ⟨La, hLa⟩ : ∃ x, x = (L.drop fr).take (i - fr) := ⟨_, rfl⟩
                        obtain ⟨Lb, hLb⟩ : ∃ x, x = (L.drop i).take (e - i) := ⟨_, rfl⟩
                        rw [← hLa, ← hLb] at csp
                        rw [← hLa] at r1
                        rw [← hLb] at r2
                        clear hLa hLb len1 len2 hsp hM
                        subst hpd
                        have p1 : fr ≤ n := by omega
                        have p2 : (i : Int) ≤ (n : Int) := by omega
                        have p3 : (fr : Int) ≤ (i : Int) := by omega
                        have p4 : (i : Int) ≤ (e : Int) := by omega
                        have p5 : (e : Int) ≤ (n : Int) := by omega
                        have p6 : (n : Int) ≤ (c : Int) := by omega
                        have p7 : (i : Int) ≤ (c : Int) := by omega
                        have p8 : (e : Int) ≤ (c : Int) := by omega
                        have p9 : (fr : Int) ≤ (c : Int) := by omega
                        clear t1 t3
                        go_wp2
                        refine wp_region_quiet_grown (by kernel_rfl) (by kernel_rfl) ?_
                        repeat (first | go_big_quiet_step ((go_at_call 51; exact Calls.grown (csp _ _ _ (.inr ⟨b, off + fr * 4, rfl, r1 _ (((Bl.refl _).drewN _).grow _)⟩) (.inr ⟨b, off + i * 4, rfl, r2 _ (((Bl.refl _).drewN _).grow _)⟩)))) | quiet_step ((go_at_call 51; exact Calls.grown (csp _ _ _ (.inr ⟨b, off + fr * 4, rfl, r1 _ (((Bl.refl _).drewN _).grow _)⟩) (.inr ⟨b, off + i * 4, rfl, r2 _ (((Bl.refl _).drewN _).grow _)⟩)))))
                        refine wpQuiet_nil ?_
                        intro W5 g8
                        replace g8 : Gr _ W5 := g8
                        clear T1 T3 csp r1 r2
                        go_wp2
                        go_ret
                        exact MayQ.no hnm.out (G3.trans g8.bl)
                    · have hD1 : Hid (DocI L i (i + 1)) := Lib.hid (hM.out.next h0 (by have := hn.out; omega) hns.out hok.out hrun.out (fun h => hpd (by have := h.1; rw [hpk.out, hrk.out] at this; exact this)))
                      have q9 : (pd == rb) = false := by simpa using hpd
                      clear t1 t3 hM
                      go_wp2
                      refine wp_region_quiet_grown (by kernel_rfl) (by kernel_rfl) ?_
                      repeat (first | go_big_quiet_step (fail) | quiet_step (fail))
                      refine wpQuiet_nil ?_
                      intro W5 g8
                      replace g8 : Gr _ W5 := g8
                      have G4 := G3.trans g8.bl
                      clear T1 T3
                      go_wp2
                      go_roundw
                      case rel => exact ⟨i, i + 1, by omega, by omega, rfl, by go_num, hD1, G4⟩
                      case measure => simp [intOf]; omega
                · have hen' : e = n := by omega
                  have hrun : Hid (Run L i e) := Lib.hid ⟨⟨by omega, by have := hn.out; omega, hal.out⟩, .inr hns.out, .inl (by rw [hen']; exact hn.out)⟩
                  have qe : ¬ (e : Int) < (n : Int) := by omega
                  clear hal
                  replace hen' := Lib.hid hen'
                  go_wp2
                  refine wp_region_quiet_grown (by kernel_rfl) (by kernel_rfl) ?_
                  repeat (first | go_big_quiet_step (fail) | quiet_step (fail))
                  refine wpQuiet_nil ?_
                  intro W2 g8
                  replace g8 : Gr _ W2 := g8
                  clear kk1 kk3
                  have t1 : W2.cell? ⟨V0.heap.size, 1, none⟩ = some (.int .i64 rb) := (bx2.gr g8).cell 1
                  have t3 : W2.cell? ⟨W1.heap.size, 3, none⟩ = some (.int .i64 pd) := (bp2.gr g8).cell 3
                  have l1 := (bx2.gr g8).lt
                  have l3 := (bp2.gr g8).lt
                  have G3 := G2.trans g8.bl
                  have T1 := fun n os => (bx2.gr g8).cells n os 1
                  have T3 := fun n os => (bp2.gr g8).cells n os 3
                  simp at T1 T3
                  by_cases hpd : pd = rb
                  · have r1 : RowR W2 b (off + fr * 4) ((L.drop fr).take (i - fr)) := Rs.part (hrow.bl G3) fr (i - fr)
                    have r2 : RowR W2 b (off + i * 4) ((L.drop i).take (e - i)) := Rs.part (hrow.bl G3) i (e - i)
                    have len1 : ((L.drop fr).take (i - fr)).length = i - fr := by have := hn.out; rw [List.length_take, List.length_drop]; omega
                    have len2 : ((L.drop i).take (e - i)).length = e - i := by have := hn.out; rw [List.length_take, List.length_drop]; omega
                    have csp := fun (cc dd : Nat) (w : World) (h1 : Rs w (some ⟨b, off + fr * 4, none⟩) ((L.drop fr).take (i - fr))) (h2 : Rs w (some ⟨b, off + i * 4, none⟩) ((L.drop i).take (e - i))) => refspans1 (some ⟨b, off + fr * 4, none⟩) (some ⟨b, off + i * 4, none⟩) cc dd _ _ w h1 h2 (by rw [len1]; omega) (by rw [len2]; omega)
                    rw [len1, len2] at csp
                    replace r1 : ∀ W3, Bl W2 W3 → RowR W3 b (off + fr * 4) ((L.drop fr).take (i - fr)) := fun W3 g => r1.bl g
                    replace r2 : ∀ W3, Bl W2 W3 → RowR W3 b (off + i * 4) ((L.drop i).take (e - i)) := fun W3 g => r2.bl g
                    cases hsp : spansB ((L.drop fr).take (i - fr)) ((L.drop i).take (e - i))
                    all_goals
                      rw [hsp] at csp
                    · have hD1 : Hid (DocI L i (i + 1)) := Lib.hid (hM.out.next h0 (by have := hn.out; omega) hns.out hok.out hrun.out (fun h => by rw [hsp] at h; cases h.2))
                      obtain ⟨La, hLa⟩ : ∃ x, x = (L.drop fr).take (i - fr) := ⟨_, rfl⟩
                      obtain ⟨Lb, hLb⟩ : ∃ x, x = (L.drop i).take (e - i) := ⟨_, rfl⟩
                      rw [← hLa, ← hLb] at csp
                      rw [← hLa] at r1
                      rw [← hLb] at r2
                      clear hLa hLb len1 len2 hsp hM
                      subst hpd
                      have p1 : fr ≤ n := by omega
                      have p2 : (i : Int) ≤ (n : Int) := by omega
                      have p3 : (fr : Int) ≤ (i : Int) := by omega
                      have p4 : (i : Int) ≤ (e : Int) := by omega
                      have p5 : (e : Int) ≤ (n : Int) := by omega
                      have p6 : (n : Int) ≤ (c : Int) := by omega
                      have p7 : (i : Int) ≤ (c : Int) := by omega
                      have p8 : (e : Int) ≤ (c : Int) := by omega
                      have p9 : (fr : Int) ≤ (c : Int) := by omega
                      clear t1 t3
                      go_wp2
                      refine wp_region_quiet_grown (by kernel_rfl) (by kernel_rfl) ?_
                      repeat (first | go_big_quiet_step ((go_at_call 51; exact Calls.grown (csp _ _ _ (.inr ⟨b, off + fr * 4, rfl, r1 _ (((Bl.refl _).drewN _).grow _)⟩) (.inr ⟨b, off + i * 4, rfl, r2 _ (((Bl.refl _).drewN _).grow _)⟩)))) | quiet_step ((go_at_call 51; exact Calls.grown (csp _ _ _ (.inr ⟨b, off + fr * 4, rfl, r1 _ (((Bl.refl _).drewN _).grow _)⟩) (.inr ⟨b, off + i * 4, rfl, r2 _ (((Bl.refl _).drewN _).grow _)⟩)))))
                      refine wpQuiet_nil ?_
                      intro W5 g8
                      replace g8 : Gr _ W5 := g8
                      have G4 := G3.trans g8.bl
                      clear T1 T3 csp r1 r2
                      go_wp2
                      go_roundw
                      case rel => exact ⟨i, i + 1, by omega, by omega, rfl, by go_num, hD1, G4⟩
                      case measure => simp [intOf]; omega
                    · have hnm : Hid (¬ mayP L) := Lib.hid (hM.out.bad h0 (by have := hn.out; omega) hns.out hrun.out ⟨by rw [hpk.out, hrk.out]; exact hpd, hsp⟩)
                      obtain ⟨La, hLa⟩ : ∃ x, x = (L.drop fr).take (i - fr) := ⟨_, rfl⟩
                      obtain ⟨Lb, hLb⟩ : ∃ x, x = (L.drop i).take (e - i) := ⟨_, rfl⟩
                      rw [← hLa, ← hLb] at csp
                      rw [← hLa] at r1
                      rw [← hLb] at r2
                      clear hLa hLb len1 len2 hsp hM
                      subst hpd
                      have p1 : fr ≤ n := by omega
                      have p2 : (i : Int) ≤ (n : Int) := by omega
                      have p3 : (fr : Int) ≤ (i : Int) := by omega
                      have p4 : (i : Int) ≤ (e : Int) := by omega
                      have p5 : (e : Int) ≤ (n : Int) := by omega
                      have p6 : (n : Int) ≤ (c : Int) := by omega
                      have p7 : (i : Int) ≤ (c : Int) := by omega
                      have p8 : (e : Int) ≤ (c : Int) := by omega
                      have p9 : (fr : Int) ≤ (c : Int) := by omega
                      clear t1 t3
                      go_wp2
                      refine wp_region_quiet_grown (by kernel_rfl) (by kernel_rfl) ?_
                      repeat (first | go_big_quiet_step ((go_at_call 51; exact Calls.grown (csp _ _ _ (.inr ⟨b, off + fr * 4, rfl, r1 _ (((Bl.refl _).drewN _).grow _)⟩) (.inr ⟨b, off + i * 4, rfl, r2 _ (((Bl.refl _).drewN _).grow _)⟩)))) | quiet_step ((go_at_call 51; exact Calls.grown (csp _ _ _ (.inr ⟨b, off + fr * 4, rfl, r1 _ (((Bl.refl _).drewN _).grow _)⟩) (.inr ⟨b, off + i * 4, rfl, r2 _ (((Bl.refl _).drewN _).grow _)⟩)))))
                      refine wpQuiet_nil ?_
                      intro W5 g8
                      replace g8 : Gr _ W5 := g8
                      clear T1 T3 csp r1 r2
                      go_wp2
                      go_ret
                      exact MayQ.no hnm.out (G3.trans g8.bl)
                  · have hD1 : Hid (DocI L i (i + 1)) := Lib.hid (hM.out.next h0 (by have := hn.out; omega) hns.out hok.out hrun.out (fun h => hpd (by have := h.1; rw [hpk.out, hrk.out] at this; exact this)))
                    have q9 : (pd == rb) = false := by simpa using hpd
                    clear t1 t3 hM
                    go_wp2
                    refine wp_region_quiet_grown (by kernel_rfl) (by kernel_rfl) ?_
                    repeat (first | go_big_quiet_step (fail) | quiet_step (fail))
                    refine wpQuiet_nil ?_
                    intro W5 g8
                    replace g8 : Gr _ W5 := g8
                    have G4 := G3.trans g8.bl
                    clear T1 T3
                    go_wp2
                    go_roundw
                    case rel => exact ⟨i, i + 1, by omega, by omega, rfl, by go_num, hD1, G4⟩
                    case measure => simp [intOf]; omega
      · rw [hem] at c1
        have hnm : Hid (¬ mayP L) := Lib.hid (may_bad hiL (fun h => by have := h.1; rw [hrk.out, hem] at this; cases this))
        replace hem := Lib.hid hem
        go_wp2_with fail
        refine (c1 _).mono ?_
        rintro e W1 ⟨rfl, g1⟩
        have G1 := (G.alloc (.cells #[.int .i64 ra, .int .i64 rb, .int .i64 rc, .int .i64 rd] 24)).trans g1.bl
        go_wp2
        go_ret
        exact MayQ.no hnm.out G1
    · obtain rfl : i = n := by omega
      have hy : Hid (mayP L) := Lib.hid (by have h := hM.out; rw [hn.out] at h; exact h.done)
      go_wp2
      go_ret
      exact MayQ.yes hy.out G

end Go.Proofs.Ytafceieenhogpaa
