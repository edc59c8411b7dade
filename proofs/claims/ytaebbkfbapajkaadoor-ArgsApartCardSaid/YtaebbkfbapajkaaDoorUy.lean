/-
  What is proved: the walk of the statement ArgsUnpack. No conditions.
-/
import Derived.Test.YtaebbkfbapajkaaDoorUx
namespace Go.Proofs.YtaebbkfbapajkaaDoor
open Go.RowKit Go.Sort
attribute [local go_sem ↓] run_min2 run_max2

theorem gv_canon (c : UInt8) (L : List Int) : canon (gv c L) ∧ (gv c L).b.length ≤ L.length := by
  unfold gv
  split
  · exact ⟨.inl ⟨_, rfl⟩, Nat.zero_le _⟩
  · split
    · exact ⟨.inl ⟨_, rfl⟩, Nat.zero_le _⟩
    · split
      · exact ⟨.inr (.inl ⟨_, rfl⟩), Nat.zero_le _⟩
      · split
        · exact ⟨.inr (.inr (.inl ⟨_, _, _, _, rfl⟩)), Nat.zero_le _⟩
        · exact ⟨.inr (.inr (.inr ⟨_, rfl⟩)), Nat.le_refl _⟩
theorem unA_canon (N : Nat) : ∀ (f : List UInt8) (X : List Av) (L : List Int), L.length ≤ N → (∀ a ∈ X, canon a ∧ a.b.length ≤ N) → ∀ a ∈ (unA X f L).1, canon a ∧ a.b.length ≤ N
  | [], X, L, hL, hX => by
    unfold unA
    split
    · exact hX
    · intro a ha; simp at ha
  | c :: f, X, L, hL, hX => by
    unfold unA
    split
    · intro a ha; simp at ha
    · refine unA_canon N f _ _ (by rw [List.length_drop]; omega) fun a ha => ?_
      rcases List.mem_append.1 ha with ha | ha
      · exact hX a ha
      · simp at ha; subst ha
        have := gv_canon c L
        exact ⟨this.1, by omega⟩
theorem unR_canon (f : List UInt8) (L : List Int) : ∀ a ∈ (unR f L).1, canon a ∧ a.b.length ≤ L.length := by
  unfold unR
  split
  · exact unA_canon L.length f [] L (Nat.le_refl _) fun a ha => by simp at ha
  · intro a ha; simp at ha
theorem unA_len : ∀ (f : List UInt8) (X : List Av) (L : List Int), (unA X f L).1.length ≤ X.length + f.length
  | [], X, L => by unfold unA; split <;> simp
  | c :: f, X, L => by
    unfold unA
    split
    · simp
    · have := unA_len f (X ++ [gv c L]) (L.drop (gn c L))
      rw [List.length_append] at this
      simp only [List.length_cons, List.length_nil] at this ⊢
      omega
theorem unR_len (f : List UInt8) (L : List Int) : (unR f L).1.length ≤ f.length := by
  unfold unR
  split
  · have := unA_len f [] L; simpa using this
  · exact Nat.zero_le _
/-- like, at one place of two rows that are the same. -/
theorem like_at {V : World} {A : Option Addr} {xs : List Value} {l : List Av} {A2 : Option Addr} {X : List (Av × Value)} (hY : Yv V A xs) (hA : AllA V xs l) (hX : Vv V A2 X) (he : X.map Prod.fst = l) (hc : ∀ a ∈ l, canon a ∧ a.b.length ≤ 1000000) {k : Nat} (hk : k < xs.length) :
    ∃ b off b2 off2 u p A' c', A = some ⟨b, off, none⟩ ∧ A2 = some ⟨b2, off2, none⟩ ∧ V.cell? ⟨b, off + k, none⟩ = some u ∧ Cells8 V b2 (off2 + k * 8) p ∧ p.2 = .slice A' p.1.b.length c' ∧
      ∀ W, Bl V W → Calls Tryd.prog 21 #[u, g8 p] W fun e w' => e = .returned (.bool true) ∧ Bl W w' := by
  have hlen := hA.len
  have hlen2 : X.length = l.length := by rw [← he, List.length_map]
  obtain ⟨b, off, u, rfl, hu, hcell⟩ := hY.at hk
  obtain ⟨b2, off2, p, rfl, hp, hcells, hsv⟩ := hX.at (k := k) (by omega)
  have hl : l[k]? = some p.1 := by rw [← he, List.getElem?_map, hp]; rfl
  have hia := hA.at hu hl
  obtain ⟨hcn, hbl⟩ := hc p.1 (List.mem_of_getElem? hl)
  obtain ⟨a, v⟩ := p
  dsimp only at *
  obtain ⟨A', c', rfl, q⟩ := hsv
  exact ⟨b, off, b2, off2, u, (a, .slice A' a.b.length c'), A', c', rfl, rfl, hcell, hcells, rfl, fun W g => like1 a hcn u A' c' W (hia.bl g) (Sv.bl ⟨A', c', rfl, q⟩ g) hbl⟩

set_option maxRecDepth 100000 in
set_option maxHeartbeats 16000000 in
theorem unpack_core (s0 : ByteArray) (hs0 : s0.size ≤ maxLen) (A1 : Option Addr) (c1 : Nat) (L1 : List Int) (w : World) (hn1 : A1 = none → c1 = 0) (hl1 : L1.length ≤ c1) (hm1 : c1 ≤ maxLen) (hr1 : RwB w A1 L1) (hb1 : ∀ x ∈ L1, 0 ≤ x ∧ x ≤ 255) :
    Calls Tryd.prog 4 #[.string s0, .slice A1 L1.length c1] w fun e w' => e = .returned (.bool true) ∧ Bl w w' := by
  have hsm : (s0.size : Int) ≤ 9223372036854775807 := by unfold maxLen at hs0; omega
  have cf := fun V => few1 A1 c1 L1 80 80 rfl V (by
    rcases hr1 with h | ⟨b, off, h, _⟩
    · exact .inl h
    · exact .inr ⟨b, off, h⟩) hl1 hm1 (by omega)
  have hL8 : (L1.take 80).length ≤ 80 := by rw [List.length_take]; omega
  have hLc : (L1.take 80).length ≤ c1 := by rw [List.length_take]; omega
  have hr8 : RwB w A1 (L1.take 80) := by
    rcases hr1 with h | ⟨b, off, h1, h2⟩
    · left; rw [h]; simp
    · exact .inr ⟨b, off, h1, h2.take 80⟩
  have hb8 : ∀ x ∈ L1.take 80, 0 ≤ x ∧ x ≤ 255 := fun x hx => hb1 x (List.mem_of_mem_take hx)
  clear hr1 hb1
  generalize L1.take 80 = L at *
  generalize L1.length = n1 at *
  replace hr8 := Lib.hid hr8
  replace hb8 := Lib.hid hb8
  replace hn1 := Lib.hid hn1
  clear hl1
  go_enter Tryd.func4, Tryd.ntmps4
  go_upto_if 14 with fail
  go_cut [0] (fun o wx => ∃ F : ByteArray, o = .string F ∧ F.size ≤ 12 ∧ wx = w)
  case first =>
    by_cases h : (12 : Int) < s0.size
    · go_wp2
      go_meet
      exact ⟨_, rfl, by rw [ByteArray.size_extract]; omega, rfl⟩
    · go_wp2
      go_meet
      exact ⟨s0, rfl, by omega, rfl⟩
  case rest =>
    obtain ⟨F, rfl, hF, rfl⟩ := hcut
    go_wp2_with fail
    refine (cf _).mono ?_
    rintro e w2 ⟨rfl, rfl⟩
    clear cf
    have cl := letters1 F wc (by unfold maxLen; omega)
    obtain ⟨n2, hn2e⟩ : ∃ n, n = L.length := ⟨_, rfl⟩
    rw [← hn2e]
    replace hn2e := Lib.hid hn2e
    go_wp2_with fail
    refine cl.mono ?_
    rintro e w3 ⟨T, rfl, hT, g3⟩
    clear cl
    have hTl : T.data.toList.length ≤ 8 := by rw [hT, lets_len, List.length_take]; omega
    have hTs : T.size ≤ 8 := hTl
    have b5 := At.new w3 #[.string F, .string T] 9
    obtain ⟨w5, hw5⟩ : ∃ V, V = w3.alloc (.cells #[.string F, .string T] 9) := ⟨_, rfl⟩
    obtain ⟨p5, hp5⟩ : ∃ p, p = w3.heap.size := ⟨_, rfl⟩
    rw [← hw5, ← hp5] at b5
    have G5 : Bl wc w5 := by rw [hw5]; exact g3.alloc _
    have rows : ∀ k, k < 2 → ∃ S : ByteArray, w5.cell? ⟨p5, k, none⟩ = some (.string S) ∧ S.size ≤ 12 := by
      intro k hk
      match k, hk with
      | 0, _ => exact ⟨F, b5.cell 0, hF⟩
      | 1, _ => exact ⟨T, b5.cell 1, by omega⟩
    replace hw5 := Lib.hid hw5
    replace hp5 := Lib.hid hp5
    replace rows := Lib.hid rows
    replace hT := Lib.hid hT
    replace hTl := Lib.hid hTl
    clear b5
    go_wp2
    rw [← hw5.out, ← hp5.out]
    go_loopw [6] (fun i wr => ∃ k : Nat, k ≤ 2 ∧ i = .int .i64 ((k : Nat) : Int) ∧ Bl w5 wr) (fun i _ => 2 - (intOf i).toNat)
    case atStart => exact ⟨0, Nat.zero_le _, rfl, Bl.refl _⟩
    case round =>
      obtain ⟨k, hk, rfl, H⟩ := hrel
      by_cases hlt : k < 2
      · have q1 : (k : Int) < 2 := by omega
        obtain ⟨S, rf, hS⟩ := rows.out k hlt
        have rf' := H.keep rf
        have GW : Bl wc wr := G5.trans H
        have ca := aunpack1 S A1 c1 L wr (by omega) (hr8.out.bl GW) hb8.out (by omega) hn1.out hLc hm1
        have cr := fun V (g : Bl wr V) => runpack1 S A1 c1 L V (by omega) (hr8.out.bl (GW.trans g)) hb8.out (by omega) hn1.out hLc hm1
        have hcan := unR_canon S.data.toList L
        have hRl : (unR S.data.toList L).1.length ≤ 12 := Nat.le_trans (unR_len _ _) hS
        generalize unR S.data.toList L = R at *
        obtain ⟨RL, RE⟩ := R
        unfold UnQ at ca
        unfold RuQ at cr
        dsimp only at ca cr hcan hRl
        rw [← hn2e.out] at ca cr
        replace hcan : ∀ a ∈ RL, canon a ∧ a.b.length ≤ 1000000 := fun a ha => ⟨(hcan a ha).1, by have := (hcan a ha).2; omega⟩
        replace hcan := Lib.hid hcan
        replace ca := Lib.hid ca
        replace cr := Lib.hid cr
        go_wp2_with fail
        refine ca.out.mono ?_
        rintro e w6 ⟨A6, c6, xs6, rfl, hy6, ha6, g6⟩
        have rf6 := g6.keep rf'
        clear ca
        go_wp2_with fail
        refine (cr.out _ g6).mono ?_
        rintro e w7 ⟨A7, c7, X7, rfl, hX7, hv7, g7⟩
        clear cr
        have hy7 := hy6.bl g7
        have ha7 := ha6.bl g7
        have hlx : xs6.length = X7.length := by rw [ha6.len, ← hX7, List.length_map]
        have hml : xs6.length ≤ 12 := by rw [ha6.len]; exact hRl
        have hlx2 : ((xs6.length : Int) != (X7.length : Int)) = false := by rw [hlx]; simp
        have HH : Bl w5 w7 := H.trans (g6.trans g7)
        replace hlx := Lib.hid hlx
        replace hX7 := Lib.hid hX7
        replace hy7 := Lib.hid hy7
        replace ha7 := Lib.hid ha7
        replace hv7 := Lib.hid hv7
        clear hy6 ha6 g6 g7 rf6
        obtain ⟨m, hm⟩ : ∃ m, m = xs6.length := ⟨_, rfl⟩
        rw [← hm] at hlx2 hml ⊢
        replace hm := Lib.hid hm
        go_wp2
        go_loopw [11] (fun j wv => ∃ q : Nat, q ≤ m ∧ j = .int .i64 ((q : Nat) : Int) ∧ Bl w7 wv) (fun j _ => m - (intOf j).toNat)
        case atStart => exact ⟨0, Nat.zero_le _, rfl, Bl.refl _⟩
        case round =>
          obtain ⟨q, hq, rfl, J⟩ := hrel
          by_cases hlt2 : q < m
          · have q2 : (q : Int) < m := by omega
            have q3 : (q : Int) < X7.length := by rw [← hlx.out, ← hm.out]; exact q2
            obtain ⟨b, off, b2, off2, u, p, A', c', rfl, rfl, hcell, hcells, hp2, hcl⟩ := like_at (hy7.out.bl J) (ha7.out.bl J) (hv7.out.bl J) hX7.out hcan.out (k := q) (by rw [← hm.out]; exact hlt2)
            obtain ⟨⟨pk, pn, ps, px0, py0, px1, py1, pb⟩, pv⟩ := p
            dsimp only at hp2
            subst hp2
            obtain ⟨F0, F1, F2, F3, F4, F5, F6, F7⟩ := hcells
            unfold g8 at hcl
            dsimp only at hcl F0 F1 F2 F3 F4 F5 F6 F7
            have Y0 := cell_regrown hcell
            have Z0 := cell_regrown F0
            have Z1 := cell_regrown F1
            have Z2 := cell_regrown F2
            have Z3 := cell_regrown F3
            have Z4 := cell_regrown F4
            have Z5 := cell_regrown F5
            have Z6 := cell_regrown F6
            have Z7 := cell_regrown F7
            have cL := fun d os => Calls.regrown_of (hcl (grow (redrawn wr d) os) (below_regrown wr d os))
            generalize pb.length = pbn at *
            clear hcl hcell F0 F1 F2 F3 F4 F5 F6 F7
            go_wp2
            refine wp_region_quiet_below (by kernel_rfl) (by kernel_rfl) ?_
            repeat (first | quiet_step (exact cL _ _) | go_big_quiet_step (exact cL _ _))
            refine wpQuiet_nil ?_
            intro _ hw'
            obtain ⟨⟨dq, osq⟩, hw''⟩ := hw'
            subst hw''
            go_wp2
            go_roundw
            case rel => exact ⟨q + 1, by omega, by go_num, J.trans (below_regrown wr dq osq)⟩
            case measure => simp [intOf]; omega
          · have q2 : ¬ (q : Int) < m := by omega
            go_wp2
            go_roundw
            case rel => exact ⟨k + 1, by omega, by go_num, HH.trans J⟩
            case measure => simp [intOf]; omega
      · have q1 : ¬ (k : Int) < 2 := by omega
        have cl := fun V => livesA V
        go_wp2_with fail
        refine (cl _).mono ?_
        rintro e w9 ⟨rfl, g9⟩
        go_wp2
        go_ret
        exact ⟨rfl, (G5.trans H).trans g9⟩

end Go.Proofs.YtaebbkfbapajkaaDoor
