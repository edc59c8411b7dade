/-
  What is proved: the statement TitleLikes: whether two texts have the same signs is told as the document says, whatever their letters' case. No conditions.
-/
import Derived.Test.YtcfckhelpnielaaVy
import Derived.ChangeMaps5
namespace Go.Proofs.Ytcfckhelpnielaa
open Go.Deep Go.ChangeShapes Go.WideShapes Go.ChangeAt Go.RowKit Go.Joins Go.Sort
open Go.ChangeMaps (open_string shut_string)
attribute [local go_sem ↓] run_min2 run_max2

set_option maxRecDepth 100000 in
set_option maxHeartbeats 4000000 in
theorem likes_core (s t : ByteArray) (hs : s.size ≤ 9223372036854775807) (ht : t.size ≤ 9223372036854775807) (A : Option Addr) (cap : Nat) (O : List Bool) (hcap : O.length ≤ cap) (hcm : cap ≤ 9223372036854775807) (w : World) (hO : Bos w A O) : Calls Try.prog 6 #[.string s, .string t, .slice A O.length cap] w (Bt w (.bool true)) := by
  have cf : ∀ w, Calls Try.prog 11 #[.string s, .int .i64 60] w fun e w' => e = .returned (.string (bs (s.data.toList.take 60))) ∧ w = w' := fun w => few1 s hs 60 (by omega) w
  have cg : ∀ w, Calls Try.prog 11 #[.string t, .int .i64 60] w fun e w' => e = .returned (.string (bs (t.data.toList.take 60))) ∧ w = w' := fun w => few1 t ht 60 (by omega) w
  have hT : (bs (s.data.toList.take 60)).size ≤ 60 := by rw [bs_size, List.length_take]; omega
  have hU : (bs (t.data.toList.take 60)).size ≤ 60 := by rw [bs_size, List.length_take]; omega
  generalize bs (s.data.toList.take 60) = T at *
  generalize bs (t.data.toList.take 60) = U at *
  have c1 := fun w => tlike1 T U (by omega) (by omega) w
  have c2 := fun w => rlike1 T U (by omega) (by omega) w
  have c5 := fun w => tlike1 U T (by omega) (by omega) w
  rw [show decide (lowN (sgs U.data.toList) = lowN (sgs T.data.toList)) = decide (lowN (sgs T.data.toList) = lowN (sgs U.data.toList)) by rw [Bool.eq_iff_iff]; simp; exact eq_comm] at c5
  have hzt := size_list T
  have c3 : ∀ L' : List UInt8, Tns T.data.toList L' → ∀ w, Calls Try.prog 26 #[.string T, .string (bs L')] w (Bt w (.bool true)) := fun L' h w => by
    have := tlike1 T (bs L') (by omega) (by rw [bs_size, ← h.len, hzt]; omega) w
    rw [bs_list, Tns.low _ (Nat.le_refl _) h, decide_eq_true rfl] at this
    exact this
  have c4 : ∀ L' : List UInt8, Tns T.data.toList L' → ∀ w, Calls Try.prog 26 #[.string (bs L'), .string T] w (Bt w (.bool true)) := fun L' h w => by
    have := tlike1 (bs L') T (by rw [bs_size, ← h.len, hzt]; omega) (by omega) w
    rw [bs_list, Tns.low _ (Nat.le_refl _) h, decide_eq_true rfl] at this
    exact this
  have hget := fun k (h : k < T.size) => nb_get T k h
  have hcat : ∀ k, k < T.size → T.data.toList.take (k + 1) = T.data.toList.take k ++ [T.data.toList.getD k 0] := fun k h => by
    have h' : k < T.data.toList.length := by rw [hzt]; exact h
    rw [List.take_add_one, List.getElem?_eq_getElem h', List.getD_eq_getElem?_getD, List.getElem?_eq_getElem h']
    rfl
  generalize decide (lowN (sgs T.data.toList) = lowN (sgs U.data.toList)) = R at *
  generalize hl : T.data.toList = l at *
  replace hl := Lib.hid hl
  replace hzt := Lib.hid hzt
  replace hget := Lib.hid hget
  replace hcat := Lib.hid hcat
  replace c3 := Lib.hid c3
  replace c4 := Lib.hid c4
  obtain ⟨n, hn⟩ : ∃ n, n = T.size := ⟨_, rfl⟩
  have hol : (O.length : Int) ≤ 9223372036854775807 := by omega
  go_enter Try.func6, Try.ntmps6
  go_wp2_with fail
  refine (cf _).mono ?_
  rintro e w1 ⟨rfl, rfl⟩
  go_wp2_with fail
  refine (cg _).mono ?_
  rintro e w2 ⟨rfl, rfl⟩
  go_wp2
  go_loopw [7, 8] (fun v i wr => ∃ (k : Nat) (A' : Option Addr) (c : Nat) (Lm : List Int), k ≤ T.size ∧ v = .slice A' Lm.length c ∧ i = .int .i64 k ∧ OwN .u8 5 wr w.heap.size A' c Lm ∧ Hid (∃ M : List UInt8, Lm = M.map (fun b => (b.toNat : Int)) ∧ Tns (l.take k) M) ∧ Bl w wr) (fun _ i _ => T.size - (intOf i).toNat)
  case atStart => exact ⟨0, none, 0, [], Nat.zero_le _, rfl, rfl, OwN.nil _ _ _ _, Lib.hid ⟨[], rfl, by simp [Tns]⟩, Bl.refl _⟩
  case round =>
    obtain ⟨k, A', c, Lm, hk, rfl, rfl, own, hMM, G⟩ := hrel
    have hMl : Lm.length ≤ 60 := by
      obtain ⟨M, h1, h2⟩ := hMM.out
      have := h2.len
      rw [List.length_take] at this
      rw [h1, List.length_map]
      omega
    have szo := G.size
    by_cases hlt : k < T.size
    · have hb := hget.out k hlt
      have hc := hcat.out k hlt
      have h256 : (T[k]'hlt).toNat < 256 := (T[k]'hlt).toNat_lt
      obtain ⟨b, hbb⟩ : ∃ b : UInt8, b = l.getD k 0 := ⟨_, rfl⟩
      have hbt : (T[k]'hlt).toNat = b.toNat := by rw [hb, hbb]; rfl
      rw [← hbb] at hc
      clear hb hbb
      have step : ∀ b' : UInt8, Tn b b' → ∃ M' : List UInt8, Lm ++ [(b'.toNat : Int)] = M'.map (fun b => (b.toNat : Int)) ∧ Tns (l.take (k + 1)) M' := fun b' h => by
        obtain ⟨M, h1, h2⟩ := hMM.out
        exact ⟨M ++ [b'], by rw [h1]; simp, by rw [hc]; exact Tns.snoc h2 h⟩
      replace step := Lib.hid step
      replace hbt := Lib.hid hbt
      clear hc
      by_cases hko : k < O.length
      · obtain ⟨ob, hob⟩ : ∃ ob, O[k]? = some ob := list_at hko
        obtain ⟨kb, ko, rfl, hrow⟩ : ∃ b off, A = some ⟨b, off, none⟩ ∧ RowO w b off O := by
          rcases hO with h | h
          · subst h; simp at hko
          · exact h
        have d1 := G.keep (hrow k ob hob)
        clear hrow hob
        have q1 : (k : Int) < O.length := by omega
        have ht32 : 97 ≤ b.toNat → b.toNat ≤ 122 → ((b - 32).toNat : Int) = (b.toNat : Int) - 32 := fun h1 h2 => by
          have : (b - 32).toNat = b.toNat - 32 := UInt8.toNat_sub_of_le b 32 (UInt8.le_iff_toNat_le.2 (by show 32 ≤ _; omega))
          omega
        replace ht32 := Lib.hid ht32
        cases ob
        · go_wp2_with (at_builtin; refine wp_app_n Try.underlying37 infoBy rfl (by decide) rfl (.tmp 43) (.tmp 45) rfl A' c Lm rfl w.heap.size (own.bl ((Bl.refl wr).alloc _)) wr.heap.size 0 [((T[k]'hlt).toNat : Int)] 1 rfl (row_one (At.new wr _ _)) (by simp) (by simp; omega) (by simp; omega) ?_; intro A2 c2 w2 own2 ap2 hg2; have G2 := ap2.bl (G.alloc _) (own.bl ((Bl.refl wr).alloc _)) (Nat.le_refl _))
          go_roundw
          case rel => exact ⟨k + 1, A2, c2, _, by omega, by simp, by simp, own2, Lib.hid (by rw [hbt.out]; exact step.out b (.inl rfl)), G2⟩
          case measure => simp [intOf]; omega
        · by_cases h97 : 97 ≤ (T[k]'hlt).toNat
          · have q2 : 97 ≤ ((T[k]'hlt).toNat : Int) := by omega
            by_cases h122 : (T[k]'hlt).toNat ≤ 122
            · have q3 : ((T[k]'hlt).toNat : Int) ≤ 122 := by omega
              go_wp2_with (at_builtin; refine wp_app_n Try.underlying37 infoBy rfl (by decide) rfl (.tmp 43) (.tmp 45) rfl A' c Lm rfl w.heap.size (own.bl ((Bl.refl wr).alloc _)) wr.heap.size 0 [((T[k]'hlt).toNat : Int) - 32] 1 rfl (row_one (At.new wr _ _)) (by simp) (by simp; omega) (by simp; omega) ?_; intro A2 c2 w2 own2 ap2 hg2; have G2 := ap2.bl (G.alloc _) (own.bl ((Bl.refl wr).alloc _)) (Nat.le_refl _))
              go_roundw
              case rel => exact ⟨k + 1, A2, c2, _, by omega, by simp, by simp, own2, Lib.hid (by
                rw [hbt.out, ← ht32.out (by rw [← hbt.out]; exact h97) (by rw [← hbt.out]; exact h122)]
                exact step.out (b - 32) (.inr ⟨by rw [← hbt.out]; exact h97, by rw [← hbt.out]; exact h122, by have := ht32.out (by rw [← hbt.out]; exact h97) (by rw [← hbt.out]; exact h122); have h9 := hbt.out; omega⟩)), G2⟩
              case measure => simp [intOf]; omega
            · have q3 : decide (((T[k]'hlt).toNat : Int) ≤ 122) = false := by simp; omega
              go_wp2_with (at_builtin; refine wp_app_n Try.underlying37 infoBy rfl (by decide) rfl (.tmp 43) (.tmp 45) rfl A' c Lm rfl w.heap.size (own.bl ((Bl.refl wr).alloc _)) wr.heap.size 0 [((T[k]'hlt).toNat : Int)] 1 rfl (row_one (At.new wr _ _)) (by simp) (by simp; omega) (by simp; omega) ?_; intro A2 c2 w2 own2 ap2 hg2; have G2 := ap2.bl (G.alloc _) (own.bl ((Bl.refl wr).alloc _)) (Nat.le_refl _))
              go_roundw
              case rel => exact ⟨k + 1, A2, c2, _, by omega, by simp, by simp, own2, Lib.hid (by rw [hbt.out]; exact step.out b (.inl rfl)), G2⟩
              case measure => simp [intOf]; omega
          · have q2 : decide (97 ≤ ((T[k]'hlt).toNat : Int)) = false := by simp; omega
            go_wp2_with (at_builtin; refine wp_app_n Try.underlying37 infoBy rfl (by decide) rfl (.tmp 43) (.tmp 45) rfl A' c Lm rfl w.heap.size (own.bl ((Bl.refl wr).alloc _)) wr.heap.size 0 [((T[k]'hlt).toNat : Int)] 1 rfl (row_one (At.new wr _ _)) (by simp) (by simp; omega) (by simp; omega) ?_; intro A2 c2 w2 own2 ap2 hg2; have G2 := ap2.bl (G.alloc _) (own.bl ((Bl.refl wr).alloc _)) (Nat.le_refl _))
            go_roundw
            case rel => exact ⟨k + 1, A2, c2, _, by omega, by simp, by simp, own2, Lib.hid (by rw [hbt.out]; exact step.out b (.inl rfl)), G2⟩
            case measure => simp [intOf]; omega
      · have q1 : decide ((k : Int) < O.length) = false := by simp; omega
        have q1n : decide (k < O.length) = false := by simp; omega
        go_wp2_with (at_builtin; refine wp_app_n Try.underlying37 infoBy rfl (by decide) rfl (.tmp 43) (.tmp 45) rfl A' c Lm rfl w.heap.size (own.bl ((Bl.refl wr).alloc _)) wr.heap.size 0 [((T[k]'hlt).toNat : Int)] 1 rfl (row_one (At.new wr _ _)) (by simp) (by simp; omega) (by simp; omega) ?_; intro A2 c2 w2 own2 ap2 hg2; have G2 := ap2.bl (G.alloc _) (own.bl ((Bl.refl wr).alloc _)) (Nat.le_refl _))
        go_roundw
        case rel => exact ⟨k + 1, A2, c2, _, by omega, by simp, by simp, own2, Lib.hid (by rw [hbt.out]; exact step.out b (.inl rfl)), G2⟩
        case measure => simp [intOf]; omega
    · obtain rfl : k = T.size := by omega
      obtain ⟨M, h1, h2⟩ := hMM.out
      subst h1
      rw [← hzt.out, List.take_length] at h2
      have c3' := c3.out M h2
      have c4' := c4.out M h2
      have cv := fun (w' : World) (g : Bl wr w') => convR own g
      clear own hMM h2 hMl
      generalize bs M = C at *
      generalize (M.map fun b => (b.toNat : Int)).length = ml at *
      replace cv := Lib.hid cv
      obtain ⟨wc, hwc⟩ : ∃ wc : World, wc = wr := ⟨_, rfl⟩
      have G0 : Bl wr wr := Bl.refl _
      go_wp2_with fail
      refine (c1 _).mono ?_
      rintro e w4 ⟨rfl, g4⟩
      go_wp2_with fail
      refine (c2 _).mono ?_
      rintro e w5 ⟨rfl, g5⟩
      have v5 := cv.out w5 (Bl.trans g4 g5)
      have q7 : (R == R) = true := by simp
      go_wp2_with fail
      refine (c3' _).mono ?_
      rintro e w6 ⟨rfl, g6⟩
      have v6 := cv.out w6 (Bl.trans (Bl.trans g4 g5) g6)
      go_wp2_with fail
      refine (c4' _).mono ?_
      rintro e w7 ⟨rfl, g7⟩
      go_wp2_with fail
      refine (c5 _).mono ?_
      rintro e w8 ⟨rfl, g8⟩
      go_wp2_with fail
      refine (c1 _).mono ?_
      rintro e w9 ⟨rfl, g9⟩
      go_wp2_with fail
      refine (tlives1 _).mono ?_
      rintro e w10 ⟨rfl, g10⟩
      go_wp2
      go_ret
      exact ⟨rfl, G.trans (((((Bl.trans g4 g5).trans g6).trans g7).trans g8).trans (Bl.trans g9 g10))⟩

set_option maxRecDepth 100000 in
theorem titleLikes_lifted (os : Os) (started : os.Started) (H : Type) (enc : TypeId × Value → H) :
    ReturnsInHanded {} Try.checked os 6 .any (Rows.titleLikesSpec.pre6 enc Try.prog Try.f6 Rows.titleLikesRow.domain false) (Rows.titleLikesSpec.post enc Try.prog Try.f6 false true false false) := by
  refine returnsInHanded_of_change (C := Try.checked) own started (by kernel_rfl) Try.func6
    (ChangeSpec.witness6 (enc := enc) (C := Try.checked) false ⟨#[], #[.string ByteArray.empty, .string ByteArray.empty, .slice none 0 0], []⟩ 8 (by kernel_rfl) (by kernel_rfl) (by kernel_rfl) (by kernel_rfl)) ?_
  intro W base args ds gs before hval0 hW hcnd _
  have hval : ∀ (j : Nat) t v, Try.f6.params[j]? = some t → args[j]? = some v → Value.okWide Try.prog W .any base t v := hval0
  have hW' := hW
  obtain ⟨p, q, hA0, hV, rfl, hfz, hnd⟩ := hW
  have hA : DataW.TrodAll enc Try.prog W 0 (fun _ => true) true Try.f6.params.toList args.toList ds p := hA0
  rw [Try.params6] at hA hval
  obtain ⟨v0, vs0, d0, ds0, p0, q0, hargs, rfl, rfl, h0, r0⟩ := trodAll_cons hA
  obtain ⟨v1, vs1, d1, ds1, p1, q1, rfl, rfl, rfl, h1, r1⟩ := trodAll_cons r0
  obtain ⟨v2, vs2, d2, ds2, p2, q2, rfl, rfl, rfl, h2, r2⟩ := trodAll_cons r1
  obtain ⟨rfl, rfl, rfl⟩ := trodAll_nil r2
  obtain rfl : args = #[v0, v1, v2] := by cases args; simp_all
  obtain ⟨rfl, rfl⟩ := trodVars_none hV
  obtain ⟨s0, rfl, rfl, rfl, ws0⟩ := open_string Try.underlying9 (hval 0 9 v0 rfl rfl) h0
  obtain ⟨s1, rfl, rfl, rfl, ws1⟩ := open_string Try.underlying9 (hval 1 9 v1 rfl rfl) h1
  obtain ⟨A2, c2, L2, rfl, hc2, hm2, hr2⟩ := open_bools Try.underlying36 Try.underlying4 cellsBool (hval 2 36 v2 rfl rfl) h2
  unfold maxLen at hm2
  clear hA0 hval0
  simp only [List.append_nil, List.nil_append] at hW'
  have hlt := hW'.lt
  refine (likes_core s0 s1 (by unfold maxLen at ws0; exact ws0) (by unfold maxLen at ws1; exact ws1) A2 c2 L2 hc2 hm2 W hr2).mono fun e W' ⟨he, hb⟩ => ?_
  subst he
  exact ⟨_, rfl, close_below (pa := p2) (pv := []) hW' (fun _ _ _ => (trodAll_cons_mk (shut_bool Try.underlying4 _) trodAll_mk0)) (fun sp hsp => by
      have := (trodAll_cons_mk (shut_string Try.underlying9 ws0) (trodAll_cons_mk (shut_string Try.underlying9 ws1) (trodAll_cons_mk (WideElems.Trod_stays laidOut (by kernel_rfl) (of_decide_eq_true (by kernel_rfl)) h2 (fun x hx => Below.same hb (hlt x (by simp [hx]))) (sp' := sp) (fun x hx => hsp x (by simp [hx]))) trodAll_mk0)))
      simp only [List.append_nil, List.nil_append] at this
      exact this)
    (fun _ _ => rfl) (by simp) hb (ok_one (by kernel_rfl) rfl (okWide_bool_mk Try.underlying4 _))⟩

theorem titleLikes_holds : Rows.TitleLikesSaid :=
  OpenClaim.holds_of_wide 6 Try.f6 rfl rfl rfl rfl rfl rfl rfl ⟨rfl, rfl, rfl, rfl, rfl⟩ rfl rfl rfl rfl rfl (by kernel_rfl) Try.func6 (by kernel_rfl)
    (of_decide_eq_true (by kernel_rfl)) (by unfold Func.isWrapper; first | (rw [if_pos (by decide +kernel)]; kernel_rfl) | (rw [if_neg (by decide +kernel)]; exact ⟨rfl, rfl⟩))
    (fun os started H enc _ => titleLikes_lifted os started H enc)

#print axioms titleLikes_holds

end Go.Proofs.Ytcfckhelpnielaa
