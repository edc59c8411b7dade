/-
  What is proved: the document's Cut and Like of texts. No conditions but bounds.
-/
import Derived.Test.YtcfckhelpnielaaVp
import Derived.Test.YtcfckhelpnielaaVo
namespace Go.Proofs.Ytcfckhelpnielaa
open Go.RowKit Go.Sort Go.Shelf

theorem parts_at {α : Type} {L : List α} {k : Nat} {x : α} (h : L[k]? = some x) : L = L.take k ++ x :: L.drop (k + 1) := by
  conv => lhs; rw [← List.take_append_drop (k + 1) L, take_snoc1 h]
  simp

set_option maxRecDepth 100000 in
set_option maxHeartbeats 4000000 in
theorem rcut1 (s : ByteArray) (hs : s.size ≤ 1000000) (n : Int) (w : World) : Calls Try.prog 25 #[.string s, .int .i64 n] w (Bt w (.string (bs (glue (cutS n 0 (sgs s.data.toList)))))) := by
  have hN := sgs_len s.data.toList
  have hsz := size_list s
  rw [hsz] at hN
  have cs := fun w => rsigns1 s hs w
  have hexb := fun (a b : Nat) => list_bs (s.extract a b)
  have hexl := fun (a b : Nat) => extract_list s a b
  have hself := list_bs s
  generalize hl : s.data.toList = l at *
  obtain ⟨R, hRR⟩ : ∃ R, R = bs (glue (cutS n 0 (sgs l))) := ⟨_, rfl⟩
  rw [← hRR]
  replace hRR := Lib.hid hRR
  replace hl := Lib.hid hl
  replace hsz := Lib.hid hsz
  replace hexb := Lib.hid hexb
  replace hexl := Lib.hid hexl
  replace hself := Lib.hid hself
  go_enter Try.func25, Try.ntmps25
  go_wp2_with fail
  refine (cs _).mono ?_
  rintro e w1 ⟨A, c, rfl, own, G⟩
  have hrow := own.ss
  clear own cs
  obtain ⟨N, hNN⟩ : ∃ N, N = (sgs l).length := ⟨_, rfl⟩
  rw [← hNN] at hN ⊢
  replace hNN := Lib.hid hNN
  go_wp2
  go_loopw [6, 7, 8] (fun e v i wr => ∃ k : Nat, k ≤ N ∧ e = .int .i64 (pos l k : Nat) ∧ v = .int .i64 (wid ((sgs l).take k)) ∧ i = .int .i64 k ∧ Fit n ((sgs l).take k) ∧ Bl w1 wr) (fun _ _ i _ => N - (intOf i).toNat)
  case atStart => exact ⟨0, Nat.zero_le _, rfl, rfl, rfl, .inl rfl, Bl.refl _⟩
  case round =>
    obtain ⟨k, hk, rfl, rfl, rfl, hfit, Gk⟩ := hrel
    have hpl := pos_le l k
    rw [hsz.out] at hpl
    by_cases hlt : k < N
    · obtain ⟨b, off, x, rfl, hx, e1, e2, e3, e4⟩ := row_open (hrow.bl Gk) (k := k) (by rw [← hNN.out]; exact hlt)
      have hsn : wid ((sgs l).take (k + 1)) = wid ((sgs l).take k) + widZ x.r := by rw [take_snoc1 hx, wid_snoc]
      have hw1 := wid_bd ((sgs l).take k)
      have hw2 := widZ_bd x.r
      have hll : ((sgs l).take k).length ≤ 1000000 := by rw [List.length_take]; omega
      have cw := fun w => rwide1 x.r w
      have hps := pos_succ hx
      have hpl2 := pos_le l (k + 1)
      rw [hps, hsz.out] at hpl2
      have hst : n < wid ((sgs l).take k) + widZ x.r → s.extract 0 (pos l k) = R := fun h => by
        rw [hRR.out, ← hexb.out, hexl.out, List.drop_zero]
        conv => rhs; rw [parts_at hx]
        rw [cutS_stop hfit h, pos_take]
      obtain ⟨Z, hZ⟩ : ∃ Z, Z = wid ((sgs l).take k) := ⟨_, rfl⟩
      rw [← hZ] at hw1 hsn hst ⊢
      clear hx
      replace hZ := Lib.hid hZ
      generalize widZ x.r = v at *
      generalize x.bs.length = m at *
      obtain ⟨p, hp⟩ : ∃ p, p = pos l k := ⟨_, rfl⟩
      rw [← hp] at e1 hps hpl hpl2 hst ⊢
      clear hp
      obtain ⟨z0, z1⟩ := hw1
      obtain ⟨v0, v1⟩ := hw2
      have zb : Z ≤ 2000000 := by omega
      have pb : (p : Int) ≤ s.size := by omega
      replace hsn := Lib.hid hsn
      replace hps := Lib.hid hps
      by_cases hn : n < Z + v
      · have he := Lib.hid (hst hn)
        clear hst
        go_wp2_with fail
        refine (cw _).mono ?_
        rintro e w2 ⟨rfl, g2⟩
        go_wp2
        go_ret
        exact ⟨by rw [← he.out]; rfl, (G.trans Gk).gr g2⟩
      · clear hst
        have q : decide (n < Z + v) = false := decide_eq_false hn
        have e2' : ∀ w', Gr wr w' → w'.cell? ⟨b, off + k * 4 + 1, none⟩ = some (.int .i64 (m : Nat)) := fun w' g => g.bl.keep e2
        go_wp2_with fail
        refine (cw _).mono ?_
        rintro e w2 ⟨rfl, g2⟩
        have e5 := e2' _ g2
        go_wp2
        go_roundw
        case rel => exact ⟨k + 1, by omega, by rw [hps.out]; simp, by rw [hsn.out], by simp, .inr (by rw [hsn.out]; omega), Gk.gr g2⟩
        case measure => simp [intOf]; omega
    · obtain rfl : k = N := by omega
      have htk : (sgs l).take k = sgs l := by rw [hNN.out, List.take_length]
      rw [htk] at hfit
      have hX : R = bs l := by rw [hRR.out, cutS_all hfit, glue_sgs]
      rw [hself.out] at hX
      by_cases hn : n < 0
      · have hz : s = ⟨#[]⟩ := by
          rcases hfit with h | h
          · have := glue_sgs l
            rw [h] at this
            have h2 := hself.out
            rw [← this] at h2
            rw [← h2]; rfl
          · have := (wid_bd (sgs l)).1
            omega
        have hX2 := Lib.hid (hX.trans hz)
        clear hX hz
        go_wp2
        go_ret
        exact ⟨by rw [hX2.out]; rfl, G.trans Gk⟩
      · have q : decide (n < 0) = false := decide_eq_false hn
        replace hX := Lib.hid hX
        go_wp2
        go_ret
        exact ⟨by rw [hX.out]; rfl, G.trans Gk⟩

theorem rlowR (r : Int) (h0 : 0 ≤ r) (h1 : r ≤ 1114111) (w : World) : Calls Try.prog 40 #[.int .i64 r] w (Rt w (.int .i64 (lowZ r))) :=
  (rlow1 r h0 h1 w).mono fun _ _ ⟨he, hw⟩ => by subst hw; exact ⟨he, Gr.refl _⟩
theorem lowN_at {X : List Sg} {k : Nat} {x : Sg} (h : X[k]? = some x) : (lowN X)[k]? = some (lowZ x.r) := by unfold lowN; rw [List.getElem?_map, h]; rfl

set_option maxRecDepth 100000 in
set_option maxHeartbeats 4000000 in
theorem rlike1 (s t : ByteArray) (hs : s.size ≤ 1000000) (ht : t.size ≤ 1000000) (w : World) : Calls Try.prog 27 #[.string s, .string t] w (Bt w (.bool (decide (lowN (sgs s.data.toList) = lowN (sgs t.data.toList))))) := by
  have c1 := fun w => rsigns1 s hs w
  have c2 := fun w => rsigns1 t ht w
  have hN := sgs_len s.data.toList
  have hM := sgs_len t.data.toList
  rw [size_list] at hN hM
  generalize s.data.toList = l at *
  generalize t.data.toList = m at *
  obtain ⟨R, hR⟩ : ∃ R, R = decide (lowN (sgs l) = lowN (sgs m)) := ⟨_, rfl⟩
  rw [← hR]
  replace hR := Lib.hid hR
  have hll : (lowN (sgs l)).length = (sgs l).length := by simp [lowN]
  have hlm : (lowN (sgs m)).length = (sgs m).length := by simp [lowN]
  replace hll := Lib.hid hll
  replace hlm := Lib.hid hlm
  go_enter Try.func27, Try.ntmps27
  go_wp2_with fail
  refine (c1 _).mono ?_
  rintro e w1 ⟨A, c, rfl, own, G⟩
  go_wp2_with fail
  refine (c2 _).mono ?_
  rintro e w2 ⟨A2, c', rfl, own2, G2⟩
  have hrow := own.ss.bl G2
  have hrow2 := own2.ss
  clear own own2 c1 c2
  obtain ⟨N, hNN⟩ : ∃ N, N = (sgs l).length := ⟨_, rfl⟩
  obtain ⟨M, hMM⟩ : ∃ M, M = (sgs m).length := ⟨_, rfl⟩
  rw [← hNN, ← hMM]
  rw [← hNN] at hN
  rw [← hMM] at hM
  replace hNN := Lib.hid hNN
  replace hMM := Lib.hid hMM
  have G3 := G.trans G2
  by_cases hNM : N = M
  · subst hNM
    have q0 : ((N : Int) != N) = false := by simp
    go_wp2
    go_loopw [7] (fun i wr => ∃ k : Nat, k ≤ N ∧ i = .int .i64 k ∧ (lowN (sgs l)).take k = (lowN (sgs m)).take k ∧ Bl w2 wr) (fun i _ => N - (intOf i).toNat)
    case atStart => exact ⟨0, Nat.zero_le _, rfl, by simp, Bl.refl _⟩
    case round =>
      obtain ⟨k, hk, rfl, heq, Gk⟩ := hrel
      by_cases hlt : k < N
      · obtain ⟨b, off, x, rfl, hx, e1, e2, e3, e4⟩ := row_open (hrow.bl Gk) (k := k) (by rw [← hNN.out]; exact hlt)
        obtain ⟨b2, off2, y, rfl, hy, d1, d2, d3, d4⟩ := row_open (hrow2.bl Gk) (k := k) (by rw [← hMM.out]; exact hlt)
        have hxr := (sgs_ok l x (List.mem_of_getElem? hx)).vr.int
        have hyr := (sgs_ok m y (List.mem_of_getElem? hy)).vr.int
        have l1 := lowN_at hx
        have l2 := lowN_at hy
        have hne : lowZ x.r ≠ lowZ y.r → R = false := fun h => by
          rw [hR.out]
          apply decide_eq_false
          intro h2
          rw [h2, l2] at l1
          exact h (Option.some.inj l1).symm
        have heq2 : lowZ x.r = lowZ y.r → (lowN (sgs l)).take (k + 1) = (lowN (sgs m)).take (k + 1) := fun h => by
          rw [take_snoc1 l1, take_snoc1 l2, heq, h]
        clear hx hy l1 l2
        replace heq := Lib.hid heq
        generalize x.r = a at *
        generalize y.r = a2 at *
        obtain ⟨hx0, hx1⟩ := hxr
        obtain ⟨hy0, hy1⟩ := hyr
        have g3 : ∀ dq os, (grow (wr.drewN dq) os).cell? ⟨b, off + k * 4 + 2, none⟩ = some (.int .i64 a) := fun dq os => (((Bl.refl wr).drewN dq).grow os).keep e3
        have k3 : ∀ dq os, (grow (wr.drewN dq) os).cell? ⟨b2, off2 + k * 4 + 2, none⟩ = some (.int .i64 a2) := fun dq os => (((Bl.refl wr).drewN dq).grow os).keep d3
        clear e1 e2 e3 e4 d1 d2 d3 d4
        replace hne := Lib.hid hne
        replace heq2 := Lib.hid heq2
        by_cases h : lowZ a = lowZ a2
        · have q : (lowZ a != lowZ a2) = false := by simpa using h
          have hq := Lib.hid (heq2.out h)
          clear h
          go_wp2
          refine wp_region_quiet_grown (by kernel_rfl) (by kernel_rfl) ?_
          repeat (first | go_big_quiet_step ((go_at_call 40; exact Calls.grown (rlowR _ (by assumption) (by assumption) _))) | quiet_step ((go_at_call 40; exact Calls.grown (rlowR _ (by assumption) (by assumption) _))))
          refine wpQuiet_nil ?_
          intro W3 g9
          replace g9 : Gr _ W3 := g9
          go_wp2
          go_roundw
          case rel => exact ⟨k + 1, by omega, by simp, hq.out, Gk.gr g9⟩
          case measure => simp [intOf]; omega
        · have q : (lowZ a != lowZ a2) = true := by simpa using h
          have hq := Lib.hid (hne.out h)
          clear h
          go_wp2
          refine wp_region_quiet_grown (by kernel_rfl) (by kernel_rfl) ?_
          repeat (first | go_big_quiet_step ((go_at_call 40; exact Calls.grown (rlowR _ (by assumption) (by assumption) _))) | quiet_step ((go_at_call 40; exact Calls.grown (rlowR _ (by assumption) (by assumption) _))))
          refine wpQuiet_nil ?_
          intro W3 g9
          replace g9 : Gr _ W3 := g9
          go_wp2
          go_ret
          exact ⟨by rw [hq.out]; rfl, (G3.trans Gk).gr g9⟩
      · obtain rfl : k = N := by omega
        have hR2 : R = true := by
          rw [hR.out]
          apply decide_eq_true
          rw [List.take_of_length_le (by rw [hll.out, ← hNN.out]; exact Nat.le_refl _), List.take_of_length_le (by rw [hlm.out, ← hMM.out]; exact Nat.le_refl _)] at heq
          exact heq
        replace hR2 := Lib.hid hR2
        clear heq
        go_wp2
        go_ret
        exact ⟨by rw [hR2.out]; rfl, G3.trans Gk⟩
  · have q0 : ((N : Int) != M) = true := by simp; omega
    have hR2 : R = false := by
      rw [hR.out]
      apply decide_eq_false
      intro h
      have := congrArg List.length h
      rw [hll.out, hlm.out, ← hNN.out, ← hMM.out] at this
      exact hNM this
    replace hR2 := Lib.hid hR2
    go_wp2
    go_ret
    exact ⟨by rw [hR2.out]; rfl, G3⟩

end Go.Proofs.Ytcfckhelpnielaa
