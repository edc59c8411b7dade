/-
  What is proved: the document's own 'May' holds for every region near 0.
-/
import Derived.Test.YtbhekpcjdpbahaaMy
namespace Go.Proofs.Ytbhekpcjdpbahaa
open Go.RowKit Go.Sort

theorem Rs.part {w : World} {b off : Nat} {L : List Rc} (h : RowR w b off L) (i k : Nat) : RowR w b (off + i * 4) ((L.drop i).take k) := ((h.half i).2.half k).1
set_option maxRecDepth 100000 in
set_option maxHeartbeats 8000000 in
theorem refmayT (A : Option Addr) (c : Nat) (B : List Bn) (L : List Rc) (w : World) (hA : Rs w A L) (hL : L = rectsL B) (hB : Gd B) (hl : L.length ≤ 1000000) (hlc : L.length ≤ c) (hc : c ≤ 9223372036854775807) :
    Calls Try.prog 30 #[.slice A L.length c] w (BoolQ w true) := by
  replace hL := Lib.hid hL
  obtain ⟨n, hn⟩ : ∃ n, n = L.length := ⟨_, rfl⟩
  rw [← hn] at hl hlc ⊢
  replace hn := Lib.hid hn
  go_enter Try.func30, Try.ntmps30
  go_wp2
  go_loopw [3, 4] (fun v iv wr => ∃ (fr i : Nat), i ≤ n ∧ fr ≤ i ∧ v = .int .i64 fr ∧ iv = .int .i64 i ∧ Hid (MayI B fr i) ∧ Bl w wr) (fun _ iv _ => n - (intOf iv).toNat)
  case atStart => exact ⟨0, 0, Nat.zero_le _, Nat.le_refl _, rfl, rfl, Lib.hid (.inl ⟨rfl, rfl⟩), Bl.refl w⟩
  case round =>
    obtain ⟨fr, i, hi, hfr, rfl, rfl, hM, G⟩ := hrel
    obtain ⟨V0, hV0⟩ : ∃ V0 : World, V0 = wr := ⟨_, rfl⟩
    subst hV0
    by_cases hlt : i < n
    · have hiL : i < L.length := by have := hn.out; omega
      obtain ⟨⟨ra, rb, rc, rd⟩, hr⟩ := list_at hiL
      obtain ⟨b, off, rfl, hrow⟩ := hA.opened (by omega)
      obtain ⟨e1, e2, e3, e4⟩ := (hrow.bl G) i _ hr
      dsimp only at e1 e2 e3 e4
      have hne : emptyB ra rb rc rd = false := by
        have := rects_ne hB.toWk ⟨ra, rb, rc, rd⟩ (by rw [← hL.out]; exact List.mem_of_getElem? hr)
        unfold emptyB; simp; exact this
      have c1 := fun w => refempty1 ra rb rc rd w
      rw [hne] at c1
      have hnx := hM.out.next hB (by rw [← hL.out]; exact hr)
      replace hnx := Lib.hid hnx
      replace hr := Lib.hid hr
      clear hne
      have lb := World.block_lt_of_cell? _ _ e1
      go_wp2_with fail
      refine (c1 _).mono ?_
      rintro e W1 ⟨rfl, g1⟩
      have bx := (At.new V0 #[.int .i64 ra, .int .i64 rb, .int .i64 rc, .int .i64 rd] 23).bl g1.bl
      have G1 := (G.alloc (.cells #[.int .i64 ra, .int .i64 rb, .int .i64 rc, .int .i64 rd] 23)).trans g1.bl
      have sz1 := g1.bl.size
      clear e1 e2 e3 e4 lb g1 c1
      rcases hnx.out with ⟨h0, hf0, hM'⟩ | ⟨h0, _, ⟨pa, pb, pc, pd⟩, hp, h1, h2, h3, hM'⟩ | ⟨h0, _, ⟨pa, pb, pc, pd⟩, k, hp, h1, h2, h3, h4, h5, h6, h7, hM'⟩
      · clear hnx hM
        have qz : ((i : Int) == 0) = true := by simp; omega
        rw [show (1 : Nat) = i + 1 from by omega, ← hf0] at hM'
        replace hM' := Lib.hid hM'
        replace hf0 := Lib.hid hf0
        replace h0 := Lib.hid h0
        go_wp2
        go_roundw
        case rel => exact ⟨fr, i + 1, by omega, by omega, rfl, by go_num, hM', G1⟩
        case measure => simp [intOf]; omega
      · clear hnx hM
        have qz : ((i : Int) == 0) = false := by simp; omega
        replace hM' := Lib.hid hM'
        obtain ⟨m, hm⟩ : ∃ m, m = i - 1 := ⟨i - 1, rfl⟩
        rw [← hL.out, ← hm] at hp
        obtain ⟨f1, f2, f3, f4⟩ := (hrow.bl G1) m _ hp
        dsimp only at f1 f2 f3 f4 h1 h2 h3
        subst h1 h2
        have q1 : IntKind.i64.wrap ((i : Int) - 1) = (m : Int) := by rw [show (i : Int) - 1 = (m : Int) from by omega]; exact IntWalk.i64_in _ (by omega)
        have q2 : decide (ra ≤ pc) = false := by simp; omega
        have q3 : m < n := by omega
        replace hm := Lib.hid hm
        have k0 : W1.cell? ⟨V0.heap.size, 0, none⟩ = some (.int .i64 ra) := bx.cell 0
        have k1 : W1.cell? ⟨V0.heap.size, 1, none⟩ = some (.int .i64 pb) := bx.cell 1
        have k3 : W1.cell? ⟨V0.heap.size, 3, none⟩ = some (.int .i64 pd) := bx.cell 3
        have lx := bx.lt
        have lb := World.block_lt_of_cell? _ _ f1
        replace hp := Lib.hid hp
        go_wp2
        go_roundw
        case rel => exact ⟨fr, i + 1, by omega, by omega, rfl, by go_num, hM', G1.alloc _⟩
        case measure => simp [intOf]; omega
      · clear hnx hM
        have qz : ((i : Int) == 0) = false := by simp; omega
        replace hM' := Lib.hid hM'
        obtain ⟨m, hm⟩ : ∃ m, m = i - 1 := ⟨i - 1, rfl⟩
        rw [← hL.out, ← hm] at hp
        have hL' := hL.out
        rw [← hL', ← hn.out] at h4
        simp only [← hL'] at h5 h6 h7
        clear hL'
        obtain ⟨f1, f2, f3, f4⟩ := (hrow.bl G1) m _ hp
        dsimp only at f1 f2 f3 f4 h1 h2 h7
        have q1 : IntKind.i64.wrap ((i : Int) - 1) = (m : Int) := by rw [show (i : Int) - 1 = (m : Int) from by omega]; exact IntWalk.i64_in _ (by omega)
        have q2 : decide (rb < pd) = false := by simp; omega
        have q3 : m < n := by omega
        have q4 : (pb == rb) = false := by simpa using h1
        replace h1 := Lib.hid h1
        replace h5 := Lib.hid h5
        replace h6 := Lib.hid h6
        replace h7 := Lib.hid h7
        replace hm := Lib.hid hm
        have k0 : W1.cell? ⟨V0.heap.size, 0, none⟩ = some (.int .i64 ra) := bx.cell 0
        have k1 : W1.cell? ⟨V0.heap.size, 1, none⟩ = some (.int .i64 rb) := bx.cell 1
        have k3 : W1.cell? ⟨V0.heap.size, 3, none⟩ = some (.int .i64 rd) := bx.cell 3
        have lx := bx.lt
        have lb := World.block_lt_of_cell? _ _ f1
        replace hp := Lib.hid hp
        go_wp2
        go_loopw [7] (fun ev w2 => ∃ e : Nat, i ≤ e ∧ e ≤ k ∧ ev = .int .i64 e ∧ Bl w w2 ∧ At w2 V0.heap.size #[.int .i64 ra, .int .i64 rb, .int .i64 rc, .int .i64 rd] 23 ∧ At w2 W1.heap.size #[.int .i64 pa, .int .i64 pb, .int .i64 pc, .int .i64 pd] 23) (fun ev _ => k - (intOf ev).toNat)
        case atStart => exact ⟨i, Nat.le_refl _, by omega, rfl, G1.alloc _, bx.alloc _, At.new _ _ _⟩
        case round =>
          obtain ⟨e, he1, he2, rfl, G2, bx2, bp2⟩ := hrel
          have kk1 : ∀ n os, (grow (wr.drewN n) os).cell? ⟨V0.heap.size, 1, none⟩ = some (.int .i64 rb) := fun n os => bx2.cells n os 1
          have kk3 : ∀ n os, (grow (wr.drewN n) os).cell? ⟨V0.heap.size, 3, none⟩ = some (.int .i64 rd) := fun n os => bx2.cells n os 3
          have kp3 : ∀ n os, (grow (wr.drewN n) os).cell? ⟨W1.heap.size, 3, none⟩ = some (.int .i64 pd) := fun n os => bp2.cells n os 3
          clear k0 k1 k3 f1 f2 f3 f4
          by_cases hek : e < k
          · obtain ⟨⟨sa, sb, sc, sd⟩, hs, hs1, hs2⟩ := h5.out e he1 hek
            have E := fun n os => (hrow.bl ((G2.drewN n).grow os)) e _ hs
            have E2 := fun n os => (E n os).2.1
            have E4 := fun n os => (E n os).2.2.2
            clear E
            dsimp only at E2 E4 hs1 hs2
            subst hs1 hs2
            have q7 : e < n := by omega
            replace hs := Lib.hid hs
            go_wp2
            refine wp_region_quiet_grown (by kernel_rfl) (by kernel_rfl) ?_
            repeat (first | go_big_quiet_step (fail) | quiet_step (fail))
            refine wpQuiet_nil ?_
            intro W2 g8
            replace g8 : Gr _ W2 := g8
            clear E2 E4 kk1 kk3 kp3
            go_wp2
            go_roundw
            case rel => exact ⟨e + 1, by omega, by omega, by go_num, G2.trans g8.bl, bx2.gr g8, bp2.gr g8⟩
            case measure => simp [intOf]; omega
          · obtain rfl : e = k := by omega
            rcases Nat.lt_or_ge e n with hkn | hkn
            · obtain ⟨⟨sa, sb, sc, sd⟩, hs⟩ := list_at (l := L) (k := e) (by have := hn.out; omega)
              have E2 := fun n os => ((hrow.bl ((G2.drewN n).grow os)) e _ hs).2.1
              have q8 : (sb == rb) = false := by have := h6.out _ hs; simpa using this
              dsimp only at E2
              replace hs := Lib.hid hs
              go_wp2
              refine wp_region_quiet_grown (by kernel_rfl) (by kernel_rfl) ?_
              repeat (first | go_big_quiet_step (fail) | quiet_step (fail))
              refine wpQuiet_nil ?_
              intro W2 g8
              replace g8 : Gr _ W2 := g8
              clear kk1 kk3 kp3
              have t1 : W2.cell? ⟨V0.heap.size, 1, none⟩ = some (.int .i64 rb) := (bx2.gr g8).cell 1
              have t3 : W2.cell? ⟨W1.heap.size, 3, none⟩ = some (.int .i64 pd) := (bp2.gr g8).cell 3
              have l1 := (bx2.gr g8).lt
              have l3 := (bp2.gr g8).lt
              have G3 := G2.trans g8.bl
              by_cases hpd : pd = rb
              · have r1 : RowR W2 b (off + fr * 4) ((L.drop fr).take (i - fr)) := Rs.part (hrow.bl G3) fr (i - fr)
                have r2 : RowR W2 b (off + i * 4) ((L.drop i).take (e - i)) := Rs.part (hrow.bl G3) i (e - i)
                have len1 : ((L.drop fr).take (i - fr)).length = i - fr := by rw [List.length_take, List.length_drop]; omega
                have len2 : ((L.drop i).take (e - i)).length = e - i := by have := hn.out; rw [List.length_take, List.length_drop]; omega
                have csp := fun (cc dd : Nat) (w : World) (h1 : Rs w (some ⟨b, off + fr * 4, none⟩) ((L.drop fr).take (i - fr))) (h2 : Rs w (some ⟨b, off + i * 4, none⟩) ((L.drop i).take (e - i))) => refspans1 (some ⟨b, off + fr * 4, none⟩) (some ⟨b, off + i * 4, none⟩) cc dd _ _ w h1 h2 (by rw [len1]; omega) (by rw [len2]; omega)
                rw [len1, len2, h7.out hpd] at csp
                replace r1 : ∀ W3, Bl W2 W3 → RowR W3 b (off + fr * 4) ((L.drop fr).take (i - fr)) := fun W3 g => r1.bl g
                replace r2 : ∀ W3, Bl W2 W3 → RowR W3 b (off + i * 4) ((L.drop i).take (e - i)) := fun W3 g => r2.bl g
                obtain ⟨La, hLa⟩ : ∃ x, x = (L.drop fr).take (i - fr) := ⟨_, rfl⟩
                obtain ⟨Lb, hLb⟩ : ∃ x, x = (L.drop i).take (e - i) := ⟨_, rfl⟩
                rw [← hLa, ← hLb] at csp
                rw [← hLa] at r1
                rw [← hLb] at r2
                clear hLa hLb len1 len2
                subst hpd
                have p1 : fr ≤ n := by omega
                have p2 : (i : Int) ≤ (n : Int) := by omega
                have p3 : (fr : Int) ≤ (i : Int) := by omega
                have p4 : (i : Int) ≤ (e : Int) := by omega
                have p5 : (e : Int) ≤ (n : Int) := by omega
                have p6 : (n : Int) ≤ (c : Int) := by omega
                have p7 : (i : Int) ≤ (c : Int) := by omega
                have p8 : (e : Int) ≤ (c : Int) := by omega
                have p9 : (fr : Int) ≤ (c : Int) := by omega
                have T1 := fun n os => (bx2.gr g8).cells n os 1
                have T3 := fun n os => (bp2.gr g8).cells n os 3
                simp at T1 T3
                clear t1 t3
                go_wp2
                refine wp_region_quiet_grown (by kernel_rfl) (by kernel_rfl) ?_
                repeat (first | go_big_quiet_step ((go_at_call 62; exact Calls.grown (csp _ _ _ (.inr ⟨b, off + fr * 4, rfl, r1 _ (((Bl.refl _).drewN _).grow _)⟩) (.inr ⟨b, off + i * 4, rfl, r2 _ (((Bl.refl _).drewN _).grow _)⟩)))) | quiet_step ((go_at_call 62; exact Calls.grown (csp _ _ _ (.inr ⟨b, off + fr * 4, rfl, r1 _ (((Bl.refl _).drewN _).grow _)⟩) (.inr ⟨b, off + i * 4, rfl, r2 _ (((Bl.refl _).drewN _).grow _)⟩)))))
                refine wpQuiet_nil ?_
                intro W5 g9
                replace g9 : Gr _ W5 := g9
                clear T1 T3 csp r1 r2
                go_wp2
                go_roundw
                case rel => exact ⟨i, i + 1, by omega, by omega, rfl, by go_num, hM', G3.trans g9.bl⟩
                case measure => simp [intOf]; omega
              · have q9 : (pd == rb) = false := by simpa using hpd
                have T1 := fun n os => (bx2.gr g8).cells n os 1
                have T3 := fun n os => (bp2.gr g8).cells n os 3
                simp at T1 T3
                clear t1 t3
                go_wp2
                refine wp_region_quiet_grown (by kernel_rfl) (by kernel_rfl) ?_
                repeat (first | go_big_quiet_step (fail) | quiet_step (fail))
                refine wpQuiet_nil ?_
                intro W5 g9
                replace g9 : Gr _ W5 := g9
                clear T1 T3
                go_wp2
                go_roundw
                case rel => exact ⟨i, i + 1, by omega, by omega, rfl, by go_num, hM', G3.trans g9.bl⟩
                case measure => simp [intOf]; omega
            · obtain rfl : e = n := by omega
              go_wp2
              refine wp_region_quiet_grown (by kernel_rfl) (by kernel_rfl) ?_
              repeat (first | go_big_quiet_step (fail) | quiet_step (fail))
              refine wpQuiet_nil ?_
              intro W2 g8
              replace g8 : Gr _ W2 := g8
              clear kk1 kk3 kp3
              have t1 : W2.cell? ⟨V0.heap.size, 1, none⟩ = some (.int .i64 rb) := (bx2.gr g8).cell 1
              have t3 : W2.cell? ⟨W1.heap.size, 3, none⟩ = some (.int .i64 pd) := (bp2.gr g8).cell 3
              have l1 := (bx2.gr g8).lt
              have l3 := (bp2.gr g8).lt
              have G3 := G2.trans g8.bl
              by_cases hpd : pd = rb
              · have r1 : RowR W2 b (off + fr * 4) ((L.drop fr).take (i - fr)) := Rs.part (hrow.bl G3) fr (i - fr)
                have r2 : RowR W2 b (off + i * 4) ((L.drop i).take (e - i)) := Rs.part (hrow.bl G3) i (e - i)
                have len1 : ((L.drop fr).take (i - fr)).length = i - fr := by rw [List.length_take, List.length_drop]; omega
                have len2 : ((L.drop i).take (e - i)).length = e - i := by have := hn.out; rw [List.length_take, List.length_drop]; omega
                have csp := fun (cc dd : Nat) (w : World) (h1 : Rs w (some ⟨b, off + fr * 4, none⟩) ((L.drop fr).take (i - fr))) (h2 : Rs w (some ⟨b, off + i * 4, none⟩) ((L.drop i).take (e - i))) => refspans1 (some ⟨b, off + fr * 4, none⟩) (some ⟨b, off + i * 4, none⟩) cc dd _ _ w h1 h2 (by rw [len1]; omega) (by rw [len2]; omega)
                rw [len1, len2, h7.out hpd] at csp
                replace r1 : ∀ W3, Bl W2 W3 → RowR W3 b (off + fr * 4) ((L.drop fr).take (i - fr)) := fun W3 g => r1.bl g
                replace r2 : ∀ W3, Bl W2 W3 → RowR W3 b (off + i * 4) ((L.drop i).take (e - i)) := fun W3 g => r2.bl g
                obtain ⟨La, hLa⟩ : ∃ x, x = (L.drop fr).take (i - fr) := ⟨_, rfl⟩
                obtain ⟨Lb, hLb⟩ : ∃ x, x = (L.drop i).take (e - i) := ⟨_, rfl⟩
                rw [← hLa, ← hLb] at csp
                rw [← hLa] at r1
                rw [← hLb] at r2
                clear hLa hLb len1 len2
                subst hpd
                have p1 : fr ≤ e := by omega
                have p2 : (i : Int) ≤ (e : Int) := by omega
                have p3 : (fr : Int) ≤ (i : Int) := by omega
                have p4 : (i : Int) ≤ (e : Int) := by omega
                have p6 : (e : Int) ≤ (c : Int) := by omega
                have p7 : (i : Int) ≤ (c : Int) := by omega
                have p8 : (e : Int) ≤ (c : Int) := by omega
                have p9 : (fr : Int) ≤ (c : Int) := by omega
                have T1 := fun n os => (bx2.gr g8).cells n os 1
                have T3 := fun n os => (bp2.gr g8).cells n os 3
                simp at T1 T3
                clear t1 t3
                go_wp2
                refine wp_region_quiet_grown (by kernel_rfl) (by kernel_rfl) ?_
                repeat (first | go_big_quiet_step ((go_at_call 62; exact Calls.grown (csp _ _ _ (.inr ⟨b, off + fr * 4, rfl, r1 _ (((Bl.refl _).drewN _).grow _)⟩) (.inr ⟨b, off + i * 4, rfl, r2 _ (((Bl.refl _).drewN _).grow _)⟩)))) | quiet_step ((go_at_call 62; exact Calls.grown (csp _ _ _ (.inr ⟨b, off + fr * 4, rfl, r1 _ (((Bl.refl _).drewN _).grow _)⟩) (.inr ⟨b, off + i * 4, rfl, r2 _ (((Bl.refl _).drewN _).grow _)⟩)))))
                refine wpQuiet_nil ?_
                intro W5 g9
                replace g9 : Gr _ W5 := g9
                clear T1 T3 csp r1 r2
                go_wp2
                go_roundw
                case rel => exact ⟨i, i + 1, by omega, by omega, rfl, by go_num, hM', G3.trans g9.bl⟩
                case measure => simp [intOf]; omega
              · have q9 : (pd == rb) = false := by simpa using hpd
                have T1 := fun n os => (bx2.gr g8).cells n os 1
                have T3 := fun n os => (bp2.gr g8).cells n os 3
                simp at T1 T3
                clear t1 t3
                go_wp2
                refine wp_region_quiet_grown (by kernel_rfl) (by kernel_rfl) ?_
                repeat (first | go_big_quiet_step (fail) | quiet_step (fail))
                refine wpQuiet_nil ?_
                intro W5 g9
                replace g9 : Gr _ W5 := g9
                clear T1 T3
                go_wp2
                go_roundw
                case rel => exact ⟨i, i + 1, by omega, by omega, rfl, by go_num, hM', G3.trans g9.bl⟩
                case measure => simp [intOf]; omega
    · obtain rfl : i = n := by omega
      go_wp2
      go_ret
      exact ⟨rfl, G⟩

end Go.Proofs.Ytbhekpcjdpbahaa
