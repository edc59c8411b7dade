/-
  What is proved: the statement EventShows walked: an event's text, and how many are of a kind, is the document's, for any events, any kind. Conditions: bounds; the tables read as their initialisers lay them.
-/
import Derived.Test.YthkbenhlhldglaaDoorDl
import Derived.Test.YthkbenhlhldglaaDoorDp
namespace Go.Proofs.YthkbenhlhldglaaDoor
open Go.RowKit Go.Sort
attribute [local go_sem ↓] run_min2 run_max2

set_option maxRecDepth 100000 in
set_option maxHeartbeats 8000000 in
theorem shows_core (A0 : Option Addr) (c0 : Nat) (L0 : List Ev) (kind : Int) (w : World) (hS : Sh w) (hT : Tb w) (hX0 : Es w A0 L0) (hI0 : ∀ e ∈ L0, I64e e) (hlc : L0.length ≤ c0) (hcm : c0 ≤ maxLen) : Calls Tryd.prog 9 #[.slice A0 L0.length c0, .int .i64 kind] w (fun e w' => e = .returned (.bool true) ∧ Bl w w') := by
  have hcM : (c0 : Int) ≤ 9223372036854775807 := by unfold maxLen at hcm; omega
  have hX := hX0.take 6
  have hI : ∀ e ∈ L0.take 6, I64e e := fun e he => hI0 e (List.mem_of_mem_take he)
  have hRl : (L0.take 6).length = min L0.length 6 := by rw [List.length_take]; omega
  obtain ⟨n, hn⟩ : ∃ n, n = L0.length := ⟨_, rfl⟩
  rw [← hn] at hlc hRl ⊢
  generalize L0.take 6 = R at *
  obtain ⟨m, hm⟩ : ∃ m, m = min n 6 := ⟨_, rfl⟩
  have hm1 : min (n : Int) 6 = (m : Int) := by omega
  have hmc : (m : Int) ≤ c0 := by omega
  have hm6 : m ≤ 6 := by omega
  rw [← hm] at hRl
  replace hm := Lib.hid hm
  replace hn := Lib.hid hn
  replace hRl := Lib.hid hRl
  clear hcm hX0 hI0
  go_enter Tryd.func9, Tryd.ntmps9
  go_wp2
  go_loopw [5, 7] (fun o i wr => ∃ k q : Nat, k ≤ m ∧ o = .int .i64 ((q : Nat) : Int) ∧ i = .int .i64 ((k : Nat) : Int) ∧ Bl w wr ∧ Hid (q = cntE (R.take k) kind) ∧ q ≤ k) (fun _ i _ => m - (intOf i).toNat)
  case atStart => exact ⟨0, 0, Nat.zero_le _, rfl, rfl, Bl.refl _, Lib.hid rfl, Nat.le_refl _⟩
  case round =>
    obtain ⟨k, q, hk, rfl, rfl, G, hq, hqk⟩ := hrel
    by_cases hlt : k < m
    · have q1 : (k : Int) < m := by omega
      obtain ⟨b, off, rfl, hrow⟩ := hX.opened (by rw [hRl.out]; omega)
      obtain ⟨e, he⟩ := list_at (l := R) (k := k) (by rw [hRl.out]; exact hlt)
      have hc0 := hrow.cells he
      have hie := hI e (List.mem_of_getElem? he)
      have hs := cntE_snoc (R.take k) e kind
      rw [← take_snocE he, ← hq.out] at hs
      have co := fun (V : World) (g : Bl w V) => ofE1 (some ⟨b, off + k * 4, none⟩) (c0 - k) [e] V ((Es.oneAt hrow he).bl g) (by simp)
      have cB := fun (V : World) (g : Bl w V) => evShow e hie V (hS.bl g) (hT.bl g)
      have cC := fun (V : World) (_ : Bl w V) => reShow e hie V
      unfold vE at cB cC
      generalize shS e = TT at *
      have hc := hc0.bl G
      obtain ⟨ek, eid, ea, eb⟩ := e
      dsimp only at *
      unfold MkE at co
      clear he hie hI hrow hX hc0
      have SK : ∀ V, Bl wr V → V.cell? ⟨b, off + k * 4, none⟩ = some (.int .i64 ek) ∧ V.cell? ⟨b, off + k * 4 + 1, none⟩ = some (.int .i64 eid) ∧ V.cell? ⟨b, off + k * 4 + 2, none⟩ = some (.int .i64 ea) ∧ V.cell? ⟨b, off + k * 4 + 3, none⟩ = some (.int .i64 eb) ∧ Bl wr V := fun V g => ⟨(hc.bl g).h0, (hc.bl g).h1, (hc.bl g).h2, (hc.bl g).h3, g⟩
      replace SK := Lib.hid SK
      have hwk : IntKind.i64.wrap ((k : Int) + 1) = (k : Int) + 1 := IntWalk.i64_in _ (by omega)
      have z1 : (0 ≤ (k : Int) + 1 ∧ (k : Int) + 1 ≤ (c0 : Int)) = True := eq_true (by omega)
      have z2 : ((k : Int) + 1).toNat = k + 1 := by omega
      have z3 : (c0 = k) = False := eq_false (by omega)
      have z4 : k + 1 - k = 1 := by omega
      have z5 : (k ≤ k + 1) = True := eq_true (by omega)
      replace co := Lib.hid fun V (g : Bl wr V) => co V (G.trans g)
      replace cB := Lib.hid fun V (g : Bl wr V) => cB V (G.trans g)
      replace cC := Lib.hid fun V (g : Bl wr V) => cC V (G.trans g)
      go_wp2
      refine wp_region_held_drew (S := fun V => V.cell? ⟨b, off + k * 4, none⟩ = some (.int .i64 ek) ∧ V.cell? ⟨b, off + k * 4 + 1, none⟩ = some (.int .i64 eid) ∧ V.cell? ⟨b, off + k * 4 + 2, none⟩ = some (.int .i64 ea) ∧ V.cell? ⟨b, off + k * 4 + 3, none⟩ = some (.int .i64 eb) ∧ Bl wr V) (by kernel_rfl) (SK.out _ (Bl.refl wr).drew) (fun hHeld => ?_)
      refine wpAnyH_take (i := 0) (v := ?_) rfl (by kernel_rfl) (by kernel_rfl) (by kernel_rfl) (fun _ _ _ h => h) (Or.inl ⟨by rfl, ?hy0_1⟩) (by assumption) ?rest0_1
      case hy0_1 => intro w' hSw; (try dsimp only at hSw); go_simp; (try with_reducible rfl)
      try simp only [Act.put, List.setIfInBounds_toArray]
      refine wpAnyH_take (i := 1) (v := ?_) rfl (by kernel_rfl) (by kernel_rfl) (by kernel_rfl) (fun _ _ _ h => h) (Or.inl ⟨by rfl, ?hy1_2⟩) (by assumption) ?rest1_2
      case hy1_2 => intro w' hSw; (try dsimp only at hSw); go_simp; (try with_reducible rfl)
      try simp only [Act.put]
      refine wpAnyH_take (i := 2) (v := ?_) rfl (by kernel_rfl) (by kernel_rfl) (by kernel_rfl) (fun _ _ _ h => h) (Or.inl ⟨by rfl, ?hy2_3⟩) (by assumption) ?rest2_3
      case hy2_3 => intro w' hSw; (try dsimp only at hSw); go_simp; (try with_reducible rfl)
      try simp only [Act.put]
      refine wpAnyH_take (i := 3) (v := ?_) rfl (by kernel_rfl) (by kernel_rfl) (by kernel_rfl) (fun _ _ _ h => h) (Or.inl ⟨by rfl, ?hy3_4⟩) (by assumption) ?rest3_4
      case hy3_4 => intro w' hSw; (try dsimp only at hSw); go_simp; (try with_reducible rfl)
      try simp only [Act.put]
      refine wpAnyH_take (i := 4) (v := ?_) rfl (by kernel_rfl) (by kernel_rfl) (by kernel_rfl) (fun _ _ _ h => h) (Or.inl ⟨by rfl, ?hy4_5⟩) (by assumption) ?rest4_5
      case hy4_5 => intro w' hSw; (try dsimp only at hSw); go_simp; (try simp only [hwk, z1, z2, z3, z4, z5, if_true, if_false]); (try with_reducible rfl)
      try simp only [Act.put]
      refine wpAnyH_take (i := 9) (v := ?_) rfl (by kernel_rfl) (by kernel_rfl) (by kernel_rfl) (fun _ _ _ h => h) (Or.inl ⟨by rfl, ?hy9_6⟩) (by assumption) ?rest9_6
      case hy9_6 => intro w' hSw; (try dsimp only at hSw); go_simp; (try with_reducible rfl)
      try simp only [Act.put]
      refine wpAnyH_take (i := 10) (v := ?_) rfl (by kernel_rfl) (by kernel_rfl) (by kernel_rfl) (fun _ _ _ h => h) (Or.inl ⟨by rfl, ?hy10_7⟩) (by assumption) ?rest10_7
      case hy10_7 => intro w' hSw; (try dsimp only at hSw); go_simp; (try with_reducible rfl)
      try simp only [Act.put]
      refine wpAnyH_take (i := 11) (v := ?_) rfl (by kernel_rfl) (by kernel_rfl) (by kernel_rfl) (fun _ _ _ h => h) (Or.inl ⟨by rfl, ?hy11_8⟩) (by assumption) ?rest11_8
      case hy11_8 => intro w' hSw; (try dsimp only at hSw); go_simp; (try with_reducible rfl)
      try simp only [Act.put]
      refine wpAnyH_take (i := 12) (v := ?_) rfl (by kernel_rfl) (by kernel_rfl) (by kernel_rfl) (fun _ _ _ h => h) (Or.inl ⟨by rfl, ?hy12_9⟩) (by assumption) ?rest12_9
      case hy12_9 => intro w' hSw; (try dsimp only at hSw); go_simp; (try with_reducible rfl)
      try simp only [Act.put]
      refine wpAnyH_ready (rs := [5]) (by kernel_rfl) (by simp) (AllReadyH.cons rfl (fun K9 hK9 => ?_) AllReadyH.nil)
      go_simp
      refine (co.out _ ((Bl.refl wr).drew)).mono ?_
      rintro e V1 ⟨A5, c5, rfl, ow5, g5⟩
      have GV1 : Bl wr V1 := Bl.trans ((Bl.refl wr).drew) g5
      obtain ⟨b5, o5, rfl, hr5⟩ := ow5.es.opened (by simp)
      have hc5 := hr5.cells (k := 0) rfl
      simp only [Nat.zero_mul, Nat.add_zero] at hc5
      clear ow5 hr5 g5
      dsimp only
      refine hK9.out _ _ (SK.out _ (GV1)) (fun _ => ?_)
      clear hK9 K9
      try simp only [Act.put]
      refine wpAnyH_take (i := 6) (v := ?_) rfl (by kernel_rfl) (by kernel_rfl) (by kernel_rfl) (fun _ _ _ h => h) (Or.inl ⟨by rfl, ?hy6_10⟩) (by assumption) ?rest6_10
      case hy6_10 => intro w' hSw; (try dsimp only at hSw); go_simp; (try with_reducible rfl)
      try simp only [Act.put]
      refine wpAnyH_ready (rs := [7]) (by kernel_rfl) (by simp) (AllReadyH.cons rfl (fun K9 hK9 => ?_) AllReadyH.nil)
      obtain ⟨m0, m1, m2, m3⟩ := hc5
      dsimp only at m0 m1 m2 m3
      go_simp
      refine hK9.out _ _ (SK.out _ (GV1)) (fun _ => ?_)
      clear hK9 K9
      try simp only [Act.put]
      refine wpAnyH_ready (rs := [8]) (by kernel_rfl) (by simp) (AllReadyH.cons rfl (fun K9 hK9 => ?_) AllReadyH.nil)
      go_simp
      refine (cB.out _ (GV1)).mono ?_
      rintro e V3 ⟨rfl, g8⟩
      have GV3 : Bl wr V3 := Bl.trans (GV1) g8
      dsimp only
      refine hK9.out _ _ (SK.out _ (GV3)) (fun _ => ?_)
      clear hK9 K9
      try simp only [Act.put]
      refine wpAnyH_ready (rs := [13]) (by kernel_rfl) (by simp) (AllReadyH.cons rfl (fun K9 hK9 => ?_) AllReadyH.nil)
      go_simp
      refine (cC.out _ (GV3)).mono ?_
      rintro e V4 ⟨rfl, gC⟩
      have GV4 : Bl wr V4 := Bl.trans (GV3) gC
      dsimp only
      refine hK9.out _ _ (SK.out _ (GV4)) (fun _ => ?_)
      clear hK9 K9
      try simp only [Act.put]
      refine wpAnyH_take (i := 14) (v := ?_) rfl (by kernel_rfl) (by kernel_rfl) (by kernel_rfl) (fun _ _ _ h => h) (Or.inl ⟨by rfl, ?hy14_11⟩) (by assumption) ?rest14_11
      case hy14_11 => intro w' hSw; (try dsimp only at hSw); go_simp; (try with_reducible rfl)
      try simp only [Act.put]
      refine wpAnyH_done (by kernel_rfl) ?_ _
      have GF : Bl wr V4 := GV4
      have G9 := G.trans GF
      have F0 := (hc.bl GF).h0
      dsimp only at F0
      clear hHeld SK co cB cC
      by_cases hek : ek = kind
      · rw [if_pos hek] at hs
        replace hs := Lib.hid hs
        subst hek
        go_wp2
        go_roundw
        case rel => exact ⟨k + 1, q + 1, by omega, by go_num, by go_num, G9, Lib.hid hs.out.symm, by omega⟩
        case measure => simp [intOf]; omega
      · rw [if_neg hek] at hs
        replace hs := Lib.hid hs
        have h' : (ek == kind) = false := by simpa using hek
        go_wp2
        go_roundw
        case rel => exact ⟨k + 1, q, by omega, by simp, by go_num, G9, Lib.hid hs.out.symm, by omega⟩
        case measure => simp [intOf]; omega
    · obtain rfl : k = m := by omega
      have q1 : ¬ (k : Int) < k := by omega
      have e1 : q = cntE R kind := by rw [hq.out, List.take_of_length_le (by rw [hRl.out]; omega)]
      have co1 := fun V (g : Bl wr V) => ofE1 A0 c0 R V ((hX.bl G).bl g) (by rw [hRl.out]; omega)
      have cc := fun A' c' V (h : Es V A' R) => countE1 A' c' R kind V h (by rw [hRl.out]; omega)
      rw [← e1] at cc
      unfold MkE at co1
      simp only [hRl.out] at co1 cc
      have cl := fun V (g : Bl wr V) => livesE V ((hS.bl G).bl g)
      replace e1 := Lib.hid e1
      clear hX hI
      go_wp2_with fail
      refine (co1 wr (Bl.refl wr)).mono ?_
      rintro e w1 ⟨A1, c1, rfl, ow1, g1⟩
      go_wp2_with fail
      refine (cc A1 c1 w1 ow1.es).mono ?_
      rintro e w2 ⟨rfl, g2⟩
      have h2 := g1.trans g2
      have cl2 := cl w2 h2
      clear co1 cc cl ow1
      go_wp2_with fail
      refine cl2.mono ?_
      rintro e w3 ⟨rfl, g3⟩
      go_wp2
      go_ret
      exact ⟨by simp, G.trans (h2.trans g3)⟩

end Go.Proofs.YthkbenhlhldglaaDoor
