/-
  What is proved: the statement RectHulls: the least rectangle round others is the document's, and covers each. No conditions.
-/
import Derived.Test.YtdijfbmccnficaaH4
import Derived.Test.YtdijfbmccnficaaB1
import Derived.Test.YtdijfbmccnficaaB3
namespace Go.Proofs.Ytdijfbmccnficaa
open Go.RowKit Go.Sort

set_option maxHeartbeats 4000000 in
theorem hulls_core (b off n cap : Nat) (f g : Nat → Rc) (w : World) (hn0 : 0 < n) (hn : n ≤ 9223372036854775807) (hc : n ≤ cap) (h : Row w b off n f)
    (hS : ∀ k, k < n → ∀ w, Calls Try.prog 18 #[.agg #[.int .i64 (f k).a, .int .i64 (f k).b, .int .i64 (f k).c, .int .i64 (f k).d]] w (Rt w (.agg #[.int .i64 (g k).a, .int .i64 (g k).b, .int .i64 (g k).c, .int .i64 (g k).d]))) :
    Calls Try.prog 5 #[.slice (some ⟨b, off, none⟩) n cap] w fun e w' => e = .returned (.bool true) ∧ Below w.heap.size w w' := by
  have mixed : Try.prog.follows .mixedOrders = true := by kernel_rfl
  have L := lives1
  obtain ⟨i0, hi, hz0, hz1, hz2⟩ := info_parts info23
  go_enter Try.func5, Try.ntmps5
  go_wp2
  go_loopw [3, 4] (fun v i wr => ∃ k : Nat, k ≤ n ∧ k ≤ 6 ∧ i = .int .i64 k ∧ wr.ownsRow w.heap.size 23 4 v k (rowL g k) ∧ Below w.heap.size w wr) (fun _ i _ => n - (intOf i).toNat)
  case atStart => exact ⟨0, by omega, by omega, rfl, World.ownsRow_nil _ _ _ _, Below.refl _ _⟩
  case round =>
    obtain ⟨k, hk, hk6, rfl, hown, hbel⟩ := hrel
    by_cases hlt : k < n ∧ k < 6
    · obtain ⟨hlt, hl6⟩ := hlt
      have Hs := (h.below hbel) k hlt
      obtain ⟨e1, e2, e3, e4⟩ := Hs
      have hSk := hS k hlt
      clear hS
      go_wp2_with fail
      refine (hSk _).mono ?_
      rintro e W1 ⟨rfl, g1⟩
      have hown1 := own_gr hown g1
      have B1 : Below w.heap.size w W1 := hbel.trans (g1.below.mono hbel.size)
      have z1 := B1.size
      clear hSk e1 e2 e3 e4 hown hbel g1
      go_wp2_with (at_builtin; refine wpList_append_lies _ rfl _ _ _ rfl w.heap.size 23 i0 (.agg #[.int .i64 0, .int .i64 0, .int .i64 0, .int .i64 0]) 4 32 Try.underlying28 hi hz0 hz1 hz2 rfl (by decide) _ _ _ rfl (hown1.alloc _) ⟨W1.heap.size, 0, none⟩ 1 1 [.int .i64 (g k).a, .int .i64 (g k).b, .int .i64 (g k).c, .int .i64 (g k).d] rfl rfl ?c1 ?c2 (by decide) ?c3 ?c4 ?c5 _ rfl ?_)
      case c1 =>
        intro j u hj
        have hA := (At.new W1 #[Value.int .i64 (g k).a, .int .i64 (g k).b, .int .i64 (g k).c, .int .i64 (g k).d] 23).cell j
        have hj' : (⟨W1.heap.size, 0, none⟩ : Addr).add j = ⟨W1.heap.size, j, none⟩ := by unfold Addr.add; split <;> simp_all
        rw [hj', hA]
        simpa using hj
      case c2 =>
        intro u hu
        simp only [List.mem_cons, List.not_mem_nil, or_false] at hu
        rcases hu with rfl | rfl | rfl | rfl <;> rfl
      case c3 => unfold maxLen; omega
      case c4 => omega
      case c5 => simp only [World.size_alloc]; omega
      intro gb cp w1 hown2 hgrow _ _
      have B2 : Below w.heap.size w w1 := (B1.alloc z1 _).grown hgrow (by simp only [World.size_alloc]; omega) (fun q hq => (hown1.lt q hq).1)
      clear hown1 hgrow B1 z1 hi hz0 hz1 hz2
      go_wp2
      go_roundw
      case rel => exact ⟨k + 1, by omega, by omega, by go_num, hown2, B2⟩
      case measure => simp [intOf]; omega
    · have hm : 0 < k := by omega
      obtain ⟨gb, cp, rfl, hgb, hgl⟩ := hown.form hm
      have Rg := Row.of_own hown
      have Rf := (h.below hbel).less (m := k) hk
      clear hS hi hz0 hz1 hz2 h
      have c1 := hull1 b off k cap f wr (by omega) Rf (by omega)
      have hcp : k ≤ cp := by
        rcases hown.2 with ⟨_, h0⟩ | ⟨g', cap', cur', hv, _, _, hle, _⟩
        · omega
        · injection hv with _ _ hh
          omega
      clear hown hgb hgl
      have ways : k < n ∧ ¬ k < 6 ∨ ¬ k < n := by omega
      clear hlt
      rcases ways with ⟨hkn, hk6'⟩ | hkn
      all_goals
        go_wp2_with fail
        refine c1.mono ?_
        rintro e W1 ⟨rfl, g1⟩
        clear c1
        go_wp2_with fail
        refine (refhull1 b off k cap f W1 (by omega) (Rf.gr g1) (by omega)).mono ?_
        rintro e W2 ⟨rfl, g2⟩
        go_wp2_with fail
        refine (hull1 gb 0 k cp g W2 (by omega) ((Rg.gr g1).gr g2) hcp).mono ?_
        rintro e W3 ⟨rfl, g3⟩
        have H0 := At.new W3 #[Value.int .i64 (hullR g k).a, .int .i64 (hullR g k).b, .int .i64 (hullR g k).c, .int .i64 (hullR g k).d] 23
        have R0 := (((Rg.gr g1).gr g2).gr g3).gr ((Gr.refl W3).alloc (.cells #[Value.int .i64 (hullR g k).a, .int .i64 (hullR g k).b, .int .i64 (hullR g k).c, .int .i64 (hullR g k).d] 23))
        have B0 : Below w.heap.size w (W3.alloc (.cells #[Value.int .i64 (hullR g k).a, .int .i64 (hullR g k).b, .int .i64 (hullR g k).c, .int .i64 (hullR g k).d] 23)) := hbel.trans ((((g1.trans g2).trans g3).alloc _).below.mono hbel.size)
        clear g1 g2 g3 Rf Rg hbel
        go_wp2
        go_loopw [7] (fun i wr => ∃ j : Nat, j ≤ k ∧ i = .int .i64 j ∧ At wr W3.heap.size #[Value.int .i64 (hullR g k).a, .int .i64 (hullR g k).b, .int .i64 (hullR g k).c, .int .i64 (hullR g k).d] 23 ∧ Row wr gb 0 k g ∧ Below w.heap.size w wr) (fun i _ => k - (intOf i).toNat)
        case atStart => exact ⟨0, by omega, rfl, H0, R0, B0⟩
        case round =>
          obtain ⟨j, hj, rfl, H, R, B⟩ := hrel
          clear H0 R0 B0
          have zB := B.size
          by_cases hlt : j < k
          · have cv : ∀ w, Calls Try.prog 22 #[.agg #[.int .i64 (hullR g k).a, .int .i64 (hullR g k).b, .int .i64 (hullR g k).c, .int .i64 (hullR g k).d], .agg #[.int .i64 (g j).a, .int .i64 (g j).b, .int .i64 (g j).c, .int .i64 (g j).d]] w (Rt w (.bool true)) := fun w => by
              have := covers1 (hullR g k).a (hullR g k).b (hullR g k).c (hullR g k).d (g j).a (g j).b (g j).c (g j).d w
              rw [hull_covers g k j hlt] at this
              exact this
            have kH := H.cells
            have E : ∀ n os, _ := fun n os => (R.gr (((Gr.refl _).drewN n).grow os)) j hlt
            simp only [Nat.zero_add] at E
            have E1 := fun n os => (E n os).1
            have E2 := fun n os => (E n os).2.1
            have E3 := fun n os => (E n os).2.2.1
            have E4 := fun n os => (E n os).2.2.2
            clear E
            go_wp2
            refine wp_region_quiet_grown (by assumption) (by kernel_rfl) ?_
            repeat (first | go_big_quiet_step ((go_at_call 22; exact Calls.grown (cv _))) | quiet_step ((go_at_call 22; exact Calls.grown (cv _))))
            refine wpQuiet_nil ?_
            intro W8 g8
            replace g8 : Gr _ W8 := g8
            clear kH E1 E2 E3 E4
            go_wp2
            go_roundw
            case rel => exact ⟨j + 1, by omega, by go_num, H.gr g8, R.gr g8, B.trans (g8.below.mono zB)⟩
            case measure => simp [intOf]; omega
          · obtain rfl : j = k := by omega
            have kH := H.cells
            have Rq := fun n os => R.gr (((Gr.refl _).drewN n).grow os)
            have rh : ∀ n os, Calls Try.prog 25 #[.slice (some ⟨gb, 0, none⟩) j cp] _ _ := fun n os => refhull1 gb 0 j cp g _ (by omega) (Rq n os) hcp
            clear Rq
            go_wp2
            refine wp_region_quiet_grown (by assumption) (by kernel_rfl) ?_
            repeat (first | go_big_quiet_step ((first | (go_at_call 25; exact Calls.grown (rh _ _)) | (go_at_call 16; exact Calls.grown (L _)))) | quiet_step ((first | (go_at_call 25; exact Calls.grown (rh _ _)) | (go_at_call 16; exact Calls.grown (L _)))))
            refine wpQuiet_nil ?_
            intro W8 g8
            replace g8 : Gr _ W8 := g8
            clear kH rh
            go_wp2
            go_ret
            exact ⟨by simp, B.trans (g8.below.mono zB)⟩

end Go.Proofs.Ytdijfbmccnficaa
