/-
  What is proved: the walk of the statement ArgsRound. No conditions.
-/
import Derived.Test.YtaebbkfbapajkaaDoorUy
namespace Go.Proofs.YtaebbkfbapajkaaDoor
open Go.RowKit Go.Sort
attribute [local go_sem ↓] run_min2 run_max2

/-- Bytes are bytes. -/
def By (l : List Int) : Prop := ∀ x ∈ l, 0 ≤ x ∧ x ≤ 255
theorem By.app {a b : List Int} (ha : By a) (hb : By b) : By (a ++ b) := fun x hx => by
  rcases List.mem_append.1 hx with h | h
  · exact ha x h
  · exact hb x h
theorem By.take {a : List Int} (h : By a) (n : Nat) : By (a.take n) := fun x hx => h x (List.mem_of_mem_take hx)
theorem d4_by (n : Int) : By (d4 n) := fun x hx => by
  simp [d4] at hx
  omega
theorem put_by {c : UInt8} {v : Av} {b : List Int} (hb : By v.b) (h : put c v = some b) : By b := by
  unfold put at h
  split at h
  · split at h
    · cases h; exact d4_by _
    · cases h
  · split at h
    · split at h
      · cases h; exact d4_by _
      · cases h
    · split at h
      · split at h
        · rename_i hc
          cases h
          intro x hx
          rcases List.mem_cons.1 hx with rfl | hx
          · omega
          · unfold tb at hx
            obtain ⟨c, _, rfl⟩ := List.mem_map.1 hx
            have := c.toNat_lt
            omega
        · cases h
      · split at h
        · split at h
          · cases h; exact (((d4_by _).app (d4_by _)).app (d4_by _)).app (d4_by _)
          · cases h
        · split at h
          · split at h
            · cases h; exact hb
            · cases h
          · cases h
theorem pk_by : ∀ (f : List UInt8) (l : List Av) (b : List Int), (∀ v ∈ l, By v.b) → pkA [] f l = some b → By b
  | [], l, b, _, h => by
    simp [pkA] at h; subst h
    intro x hx; simp at hx
  | c :: f, [], b, _, h => by simp [pkA] at h
  | c :: f, v :: l, b, hl, h => by
    simp only [pkA] at h
    cases hp : put c v with
    | none => rw [hp] at h; cases h
    | some p =>
      rw [hp] at h
      dsimp only at h
      rw [pkA_eq] at h
      obtain ⟨q, hq, rfl⟩ := Option.map_eq_some_iff.1 h
      rw [List.nil_append]
      exact (put_by (hl v (by simp)) hp).app (pk_by f l q (fun u hu => hl u (by simp [hu])) hq)
theorem good_by (c : UInt8) {v : Av} (h : By v.b) : By (goodV c v).b := by
  have e : By ([] : List Int) := fun x hx => by simp at hx
  unfold goodV
  split
  · exact e
  · split
    · exact e
    · split
      · exact e
      · split
        · exact e
        · exact h.take 20
theorem goodL_by : ∀ (f : List UInt8) (l : List Av), (∀ v ∈ l, By v.b) → ∀ v ∈ goodL f l, By v.b
  | [], _, _, v, hv => by simp [goodL] at hv
  | c :: f, l, hl, v, hv => by
    simp only [goodL] at hv
    rcases List.mem_cons.1 hv with rfl | hv
    · refine good_by c ?_
      cases l with
      | nil => exact fun x hx => by simp [zeroV] at hx
      | cons a l => exact hl a (by simp)
    · exact goodL_by f l.tail (fun u hu => hl u (List.mem_of_mem_tail hu)) v hv
theorem fewL_by (l : List Av) (h : ∀ v ∈ l, By v.b) : ∀ v ∈ fewL l, By v.b := fun v hv => by
  unfold fewL at hv
  obtain ⟨a, ha, rfl⟩ := List.mem_map.1 hv
  exact (h a (List.mem_of_mem_take ha)).take 300
theorem okL_mem {f : List UInt8} {l : List Av} (h : OkL f l) : ∀ a ∈ l, canon a ∧ a.b.length ≤ 1000000 := by
  induction h with
  | nil => intro a ha; simp at ha
  | cons h _ ih =>
    intro a ha
    rcases List.mem_cons.1 ha with rfl | ha
    · refine ⟨okA_canon h, ?_⟩
      rcases h with ⟨_, n, rfl, _⟩ | ⟨_, n, rfl, _⟩ | ⟨_, s, rfl, _⟩ | ⟨_, x0, y0, x1, y1, rfl, _⟩ | ⟨_, b, rfl, h⟩
      · exact Nat.zero_le _
      · exact Nat.zero_le _
      · exact Nat.zero_le _
      · exact Nat.zero_le _
      · exact Nat.le_trans h (by omega)
    · exact ih a ha
/-- The last letter tells whether a form ends with bytes. -/
def opens : List UInt8 → Bool
  | [] => false
  | [c] => c == 98
  | _ :: d :: f => opens (d :: f)
theorem opens_iff : ∀ f : List UInt8, formR f = true → (opens f = true ↔ ¬ noB f)
  | [], _ => by
    refine ⟨fun h => by simp [opens] at h, fun h => absurd (fun c hc => by simp at hc) h⟩
  | [c], _ => by
    unfold opens noB
    simp
  | c :: d :: f, hf => by
    obtain ⟨h1, h2⟩ := formR_b hf
    have hc : c ≠ 98 := fun h => by cases h1 h
    have i := opens_iff (d :: f) h2
    show opens (d :: f) = true ↔ _
    rw [i]
    refine not_congr ⟨fun h e he => ?_, fun h e he => h e (List.mem_cons_of_mem _ he)⟩
    rcases List.mem_cons.1 he with rfl | he
    · exact hc
    · exact h e he
theorem opens_last : ∀ (f : List UInt8) (h : f ≠ []), opens f = (f.getLast h == 98)
  | [], h => absurd rfl h
  | [c], _ => rfl
  | _ :: d :: f, h => by
    show opens (d :: f) = _
    rw [opens_last (d :: f) (by simp)]
    simp

theorem drop_last {α : Type} : ∀ (l : List α) (h : l ≠ []), l.drop (l.length - 1) = [l.getLast h]
  | [], h => absurd rfl h
  | [a], _ => rfl
  | a :: b :: l, h => by
    have := drop_last (b :: l) (by simp)
    simp only [List.length_cons, Nat.add_sub_cancel] at this ⊢
    rw [List.drop_succ_cons, this]
    simp
theorem last_b (T : ByteArray) (h : 0 < T.size) : ((T.extract (max ((T.size : Int) - 1) 0).toNat T.size).toList == [98]) = opens T.data.toList := by
  have hl : T.data.toList.length = T.size := rfl
  have hne : T.data.toList ≠ [] := fun e => by rw [e] at hl; simp at hl; omega
  rw [opens_last _ hne, Lib.toList_data, ByteArray.data_extract, Array.toList_extract, List.extract_eq_take_drop]
  have e1 : (max ((T.size : Int) - 1) 0).toNat = T.size - 1 := by omega
  rw [e1, show T.size - (T.size - 1) = 1 from by omega]
  have e2 : T.data.toList.drop (T.size - 1) = [T.data.toList.getLast hne] := by
    rw [← hl]; exact drop_last _ hne
  rw [e2]
  rw [Bool.eq_iff_iff]
  simp
theorem unR_unA {f : List UInt8} (h : formB f = true) (L : List Int) : unR f L = unA [] f L := by unfold unR; rw [if_pos h]

set_option maxRecDepth 100000 in
set_option maxHeartbeats 16000000 in
theorem round_core (s0 : ByteArray) (hs0 : s0.size ≤ maxLen) (A1 : Option Addr) (c1 : Nat) (X1 : List (Av × Value)) (x : Int) (hx : 0 ≤ x ∧ x ≤ 255) (w : World) (hX1 : Vv w A1 X1) (hl1 : X1.length ≤ maxLen) (hby1 : ∀ p ∈ X1, By p.1.b) :
    Calls Tryd.prog 5 #[.string s0, .slice A1 X1.length c1, .int .u8 x] w fun e w' => e = .returned (.bool true) ∧ Bl w w' := by
  have hsm : (s0.size : Int) ≤ 9223372036854775807 := by unfold maxLen at hs0; omega
  have cf := fun V (g : Bl w V) => fewV1 A1 c1 X1 V (hX1.bl g) hl1
  have hfl : (fewL (X1.map Prod.fst)).length ≤ 10 := by unfold fewL; rw [List.length_map, List.length_take]; omega
  have hfb := fewL_by (X1.map Prod.fst) (fun v hv => by obtain ⟨p, hp, rfl⟩ := List.mem_map.1 hv; exact hby1 p hp)
  generalize fewL (X1.map Prod.fst) = F1 at *
  generalize X1.length = n1 at *
  replace hfl := Lib.hid hfl
  replace cf := Lib.hid cf
  replace hfb := Lib.hid hfb
  clear hX1 hl1 hby1
  have cl := letters1 s0 w hs0
  go_enter Tryd.func5, Tryd.ntmps5
  go_wp2_with fail
  refine cl.mono ?_
  rintro e w3 ⟨T, rfl, hT, g3⟩
  clear cl
  have hTl : T.data.toList.length ≤ 8 := by rw [hT, lets_len, List.length_take]; omega
  have hTs : T.size ≤ 8 := hTl
  have hTf : formR T.data.toList = true := by rw [hT]; exact lets_form _
  have hTB : formB T.data.toList = true := by unfold formB; rw [hTf]; simpa using hTl
  have hTm := formR_mem _ hTf
  replace hT := Lib.hid hT
  replace hTl := Lib.hid hTl
  replace hTf := Lib.hid hTf
  replace hTB := Lib.hid hTB
  replace hTm := Lib.hid hTm
  go_wp2_with fail
  refine (cf.out _ g3).mono ?_
  rintro e w5 ⟨A5, c5, X5, rfl, hX5, own5, hsv5, g5⟩
  have hn5 : X5.length ≤ 10 := by have := congrArg List.length hX5; rw [List.length_map] at this; have := hfl.out; omega
  have hv5 := own5.vv fun p hp => (hsv5 p hp).bl g5
  have cg := goodG T A5 c5 X5 w5 hv5 (by omega) (by omega) hTm.out
  have hok := goodL_ok T.data.toList (X5.map Prod.fst) hTm.out
  have hgl : (goodL T.data.toList (X5.map Prod.fst)).length = T.data.toList.length := goodL_len _ _
  have hgb := goodL_by T.data.toList (X5.map Prod.fst) (by rw [hX5]; exact hfb.out)
  obtain ⟨bs, hbs, hbl, hround⟩ := round T.data.toList (goodL T.data.toList (X5.map Prod.fst)) [] hTf.out hok
  have hmore := more T.data.toList _ [] hTf.out hok bs hbs
  have hless := fun h => less T.data.toList _ [] h hTf.out hok bs hbs
  have hbsb := pk_by T.data.toList _ bs hgb hbs
  have hpk : pkR T.data.toList (goodL T.data.toList (X5.map Prod.fst)) = (bs, 0) := by
    unfold pkR
    rw [if_pos ⟨hTB.out, hgl⟩, hbs]
    rw [show pkE (some bs) = if 4096 < bs.length then ([], 7) else (bs, 0) from rfl, if_neg (by have := hTl.out; omega)]
  have hmem := okL_mem hok
  have hgl8 : (goodL T.data.toList (X5.map Prod.fst)).length ≤ 8 := by rw [hgl]; exact hTl.out
  have hbl2 : bs.length ≤ 2048 := by have := hTl.out; omega
  generalize goodL T.data.toList (X5.map Prod.fst) = F2 at *
  clear hok hbs hgl hX5 own5 hsv5 hgb hbl
  obtain ⟨n5, hn5e⟩ : ∃ n, n = X5.length := ⟨_, rfl⟩
  rw [← hn5e] at cg ⊢
  replace hn5e := Lib.hid hn5e
  replace hpk := Lib.hid hpk
  replace hmore := Lib.hid hmore
  replace hless := Lib.hid hless
  replace hround := Lib.hid hround
  replace hbsb := Lib.hid hbsb
  replace hmem := Lib.hid hmem
  replace cg := Lib.hid cg
  go_wp2_with fail
  refine cg.out.mono ?_
  rintro e w6 ⟨A6, c6, X6, rfl, hX6, own6, hsv6, g6⟩
  have hn6 : X6.length ≤ 10 := by have := congrArg List.length hX6; rw [List.length_map] at this; omega
  have hv6 := own6.vv fun p hp => (hsv6 p hp).bl g6
  have cal := all1 A6 c6 X6 w6 hv6 (by omega)
  rw [hX6] at cal
  have G6 : Bl w w6 := g3.trans (g5.trans g6)
  clear cg own6 hsv6 hv5
  obtain ⟨n6, hn6e⟩ : ∃ n, n = X6.length := ⟨_, rfl⟩
  rw [← hn6e] at cal hn6 ⊢
  replace hn6e := Lib.hid hn6e
  replace hX6 := Lib.hid hX6
  replace hv6 := Lib.hid hv6
  replace cal := Lib.hid cal
  go_wp2_with fail
  refine cal.out.mono ?_
  rintro e w7 ⟨A7, c7, xs7, rfl, hy7, ha7, g7⟩
  have cp := apack1 T A7 c7 xs7 F2 w7 (by omega) (by omega) hy7 ha7
  rw [hpk.out] at cp
  unfold PackQ at cp
  dsimp only at cp
  clear cal hy7 ha7
  generalize xs7.length = n7 at *
  go_wp2_with fail
  refine cp.mono ?_
  rintro e w8 ⟨A8, cp8, rfl, hs8, gg8⟩
  have G8 := G6.trans (g7.trans gg8)
  clear cp
  obtain ⟨nb, hnb⟩ : ∃ n, n = bs.length := ⟨_, rfl⟩
  obtain ⟨hn8, hle8, hcap8, hrw8⟩ : (A8 = none → cp8 = 0) ∧ bs.length ≤ cp8 ∧ cp8 ≤ maxLen ∧ RwB w8 A8 bs := by
    obtain ⟨A', c', h1, h2, h3, h4, h5⟩ := hs8
    injection h1 with e1 e2 e3
    subst e1 e3
    exact ⟨h2, h3, h4, h5⟩
  have cu := fun V (g : Bl w8 V) => aunpack1 T A8 cp8 bs V (by omega) (hrw8.bl g) hbsb.out (by omega) hn8 hle8 hcap8
  rw [show unR T.data.toList bs = (F2, 0) by unfold unR; rw [if_pos hTB.out, hround.out]; rfl] at cu
  unfold UnQ at cu
  dsimp only at cu
  rw [← hnb] at cu hle8 hbl2 ⊢
  replace hnb := Lib.hid hnb
  replace hn8 := Lib.hid hn8
  replace hrw8 := Lib.hid hrw8
  replace cu := Lib.hid cu
  clear hs8
  go_wp2_with fail
  refine (cu.out _ (Bl.refl _)).mono ?_
  rintro e w9 ⟨A9, c9, xs9, rfl, hy9, ha9, g9⟩
  have gg9 := Lib.hid g9
  have hlx : xs9.length = n6 := by rw [ha9.len, ← hX6.out, List.length_map, ← hn6e.out]
  have hlx2 : ((xs9.length : Int) != (n6 : Int)) = false := by rw [hlx]; simp
  have hml : xs9.length ≤ 12 := by omega
  have hv9 := hv6.out.bl (g7.trans (gg8.trans g9))
  have G9 := G8.trans g9
  replace hlx := Lib.hid hlx
  replace hy9 := Lib.hid hy9
  replace ha9 := Lib.hid ha9
  replace hv9 := Lib.hid hv9
  obtain ⟨m, hm⟩ : ∃ m, m = xs9.length := ⟨_, rfl⟩
  rw [← hm] at hlx2 hml ⊢
  replace hm := Lib.hid hm
  clear cu
  go_wp2
  go_loopw [13] (fun j wv => ∃ q : Nat, q ≤ m ∧ j = .int .i64 ((q : Nat) : Int) ∧ Bl w9 wv) (fun j _ => m - (intOf j).toNat)
  case atStart => exact ⟨0, Nat.zero_le _, rfl, Bl.refl _⟩
  case round =>
    obtain ⟨q, hq, rfl, J⟩ := hrel
    by_cases hlt2 : q < m
    · have q2 : (q : Int) < m := by omega
      have q3 : (q : Int) < (n6 : Int) := by have := hlx.out; have := hm.out; omega
      obtain ⟨b, off, b2, off2, u, p, A', c', rfl, rfl, hcell, hcells, hp2, hcl⟩ := like_at (hy9.out.bl J) (ha9.out.bl J) (hv9.out.bl J) hX6.out hmem.out (k := q) (by rw [← hm.out]; exact hlt2)
      obtain ⟨⟨pk, pn, ps, px0, py0, px1, py1, pb⟩, pv⟩ := p
      dsimp only at hp2
      subst hp2
      obtain ⟨F0, F1, F2, F3, F4, F5, F6, F7⟩ := hcells
      unfold g8 at hcl
      dsimp only at hcl F0 F1 F2 F3 F4 F5 F6 F7
      have Y0 := cell_regrown hcell
      have Z0 := cell_regrown F0
      have Z1 := cell_regrown F1
      have Z2 := cell_regrown F2
      have Z3 := cell_regrown F3
      have Z4 := cell_regrown F4
      have Z5 := cell_regrown F5
      have Z6 := cell_regrown F6
      have Z7 := cell_regrown F7
      have cL := fun d os => Calls.regrown_of (hcl (grow (redrawn wr d) os) (below_regrown wr d os))
      generalize pb.length = pbn at *
      clear hcl hcell F0 F1 F2 F3 F4 F5 F6 F7
      go_wp2
      refine wp_region_quiet_below (by kernel_rfl) (by kernel_rfl) ?_
      repeat (first | quiet_step (exact cL _ _) | go_big_quiet_step (exact cL _ _))
      refine wpQuiet_nil ?_
      intro _ hw'
      obtain ⟨⟨dq, osq⟩, hw''⟩ := hw'
      subst hw''
      go_wp2
      go_roundw
      case rel => exact ⟨q + 1, by omega, by go_num, J.trans (below_regrown wr dq osq)⟩
      case measure => simp [intOf]; omega
    · have q2 : ¬ (q : Int) < m := by omega
      have G10 := G9.trans J
      clear hlx2 hml hq hlt2
      by_cases ht0 : T.size = 0
      · have t1 : ¬ 0 < (T.size : Int) := by omega
        have hno : noB T.data.toList := fun c hc => by
          have : T.data.toList = [] := List.eq_nil_of_length_eq_zero ht0
          rw [this] at hc; simp at hc
        replace hno := Lib.hid hno
        obtain ⟨RM, hRM⟩ : ∃ RL, unA [] T.data.toList (bs ++ [x]) = (RL, 2) := ⟨_, Prod.ext rfl ((hmore.out x).1 hno.out)⟩
        replace hRM := Lib.hid hRM
        have hmb : bs.length ≤ 2048 := by rw [← hnb.out]; exact hbl2
        go_wp2_with (first | (at_builtin; refine wp_app_b rfl (.tmp 79) (.tmp 80) rfl none 0 [] rfl wr.heap.size (OwB.nil _ _) A8 bs cp8 (by rw [← hnb.out]; rfl) hn8.out (hrw8.out.bl ((gg9.out).trans J)) (by rw [← hnb.out]; simp; omega) (Nat.le_refl _) ?_; intro A11 c11 w11 own11 by11 _; have G11 : Bl wr w11 := app_bl by11 (Bl.refl _) (.inl rfl) (Nat.le_refl _)) | (at_builtin; refine wp_app_b rfl (.tmp 84) (.tmp 86) rfl A11 c11 ([] ++ bs) rfl wr.heap.size (own11.bl ((Bl.refl _).alloc _)) (some ⟨w11.heap.size, 0, none⟩) [x] 1 rfl (by simp) (RwB.blk (L := [x]) (At.new w11 _ _)) (by rw [List.nil_append]; simp; omega) (by have := G11.size; simp; omega) ?_; intro A12 c12 w12 own12 by12 _; have G12 : Bl wr w12 := app_bl by12 (G11.alloc _) (by rcases ow_lies own11 with h | ⟨g, h1, h2, h3⟩; exact .inl h; exact .inr ⟨g, h1, h2, by simp; omega⟩) (Nat.le_refl _)) | fail)
        have e12 : ([] ++ bs ++ [x]).length = bs.length + 1 := by simp
        have cu := aunpack1 T A12 c12 ([] ++ bs ++ [x]) w12 (by omega) own12.rwb (by rw [List.nil_append]; exact hbsb.out.app (fun y hy => by simp at hy; subst hy; exact hx)) (by rw [e12]; omega) (own_caps own12).2.2 (own_caps own12).1 (own_caps own12).2.1
        rw [unR_unA hTB.out, List.nil_append, hRM.out, show (bs ++ [x]).length = bs.length + 1 by simp] at cu
        unfold UnQ at cu
        dsimp only at cu
        clear own12 own11 by11 by12 e12
        go_wp2_with fail
        refine cu.mono ?_
        rintro e w13 ⟨A13, c13, xs13, rfl, _, _, g13⟩
        clear cu
        generalize xs13.length = n13 at *
        have G13 := G10.trans (G12.trans g13)
        have J13 := (gg9.out.trans J).trans (G12.trans g13)
        have cl := fun V => livesA V
        by_cases hz : nb = 0
        · subst hz
          go_wp2_with fail
          refine (cl _).mono ?_
          rintro e w15 ⟨rfl, g15⟩
          go_wp2
          go_ret
          exact ⟨rfl, G13.trans g15⟩
        · have z1 : 0 < (nb : Int) := by omega
          obtain ⟨b8, off8, rfl, _⟩ := hrw8.out.opened (by rw [← hnb.out]; omega)
          obtain ⟨nb, rfl⟩ : ∃ k, nb = k + 1 := ⟨nb - 1, by omega⟩
          have htl : (bs.take nb).length = nb := by rw [List.length_take, ← hnb.out]; omega
          have hrt : RwB w8 (some ⟨b8, off8, none⟩) (bs.take nb) := by
            rcases hrw8.out with h | ⟨b', off', h1, h2⟩
            · left; rw [h]; simp
            · exact .inr ⟨b', off', h1, h2.take _⟩
          have cu := aunpack1 T (some ⟨b8, off8, none⟩) cp8 (bs.take nb) w13 (by omega) (hrt.bl J13) (hbsb.out.take _) (by rw [htl]; omega) hn8.out (by rw [htl]; omega) hcap8
          rw [unR_unA hTB.out, htl] at cu
          have hlast := hless.out hno.out (by intro h; have := hnb.out; rw [h] at this; simp at this)
          rw [← hnb.out, Nat.add_sub_cancel] at hlast
          obtain ⟨RR1, hRR⟩ : ∃ RL, unA [] T.data.toList (bs.take nb) = (RL, 3) := ⟨_, Prod.ext rfl hlast⟩
          rw [hRR] at cu
          clear hlast hRR
          unfold UnQ at cu
          dsimp only at cu
          clear htl hrt
          go_wp2_with fail
          refine cu.mono ?_
          rintro e w14 ⟨A14, c14, xs14, rfl, _, _, g14⟩
          clear cu
          generalize xs14.length = n14 at *
          go_wp2_with fail
          refine (cl _).mono ?_
          rintro e w15 ⟨rfl, g15⟩
          go_wp2
          go_ret
          exact ⟨rfl, (G13.trans g14).trans g15⟩
      · have t1 : 0 < (T.size : Int) := by omega
        have t2 : (T.size : Int) - 1 ≤ T.size := by omega
        have t5 := last_b T (by omega)
        have hob := opens_iff T.data.toList hTf.out
        generalize opens T.data.toList = ob at *
        cases ob with
        | false =>
          have hno : noB T.data.toList := Classical.byContradiction fun h => by have := hob.2 h; cases this
          replace hno := Lib.hid hno
          clear hob
          obtain ⟨RM, hRM⟩ : ∃ RL, unA [] T.data.toList (bs ++ [x]) = (RL, 2) := ⟨_, Prod.ext rfl ((hmore.out x).1 hno.out)⟩
          replace hRM := Lib.hid hRM
          have hmb : bs.length ≤ 2048 := by rw [← hnb.out]; exact hbl2
          go_wp2_with (first | (at_builtin; refine wp_app_b rfl (.tmp 79) (.tmp 80) rfl none 0 [] rfl wr.heap.size (OwB.nil _ _) A8 bs cp8 (by rw [← hnb.out]; rfl) hn8.out (hrw8.out.bl ((gg9.out).trans J)) (by rw [← hnb.out]; simp; omega) (Nat.le_refl _) ?_; intro A11 c11 w11 own11 by11 _; have G11 : Bl wr w11 := app_bl by11 (Bl.refl _) (.inl rfl) (Nat.le_refl _)) | (at_builtin; refine wp_app_b rfl (.tmp 84) (.tmp 86) rfl A11 c11 ([] ++ bs) rfl wr.heap.size (own11.bl ((Bl.refl _).alloc _)) (some ⟨w11.heap.size, 0, none⟩) [x] 1 rfl (by simp) (RwB.blk (L := [x]) (At.new w11 _ _)) (by rw [List.nil_append]; simp; omega) (by have := G11.size; simp; omega) ?_; intro A12 c12 w12 own12 by12 _; have G12 : Bl wr w12 := app_bl by12 (G11.alloc _) (by rcases ow_lies own11 with h | ⟨g, h1, h2, h3⟩; exact .inl h; exact .inr ⟨g, h1, h2, by simp; omega⟩) (Nat.le_refl _)) | fail)
          have e12 : ([] ++ bs ++ [x]).length = bs.length + 1 := by simp
          have cu := aunpack1 T A12 c12 ([] ++ bs ++ [x]) w12 (by omega) own12.rwb (by rw [List.nil_append]; exact hbsb.out.app (fun y hy => by simp at hy; subst hy; exact hx)) (by rw [e12]; omega) (own_caps own12).2.2 (own_caps own12).1 (own_caps own12).2.1
          rw [unR_unA hTB.out, List.nil_append, hRM.out, show (bs ++ [x]).length = bs.length + 1 by simp] at cu
          unfold UnQ at cu
          dsimp only at cu
          clear own12 own11 by11 by12 e12
          go_wp2_with fail
          refine cu.mono ?_
          rintro e w13 ⟨A13, c13, xs13, rfl, _, _, g13⟩
          clear cu
          generalize xs13.length = n13 at *
          have G13 := G10.trans (G12.trans g13)
          have J13 := (gg9.out.trans J).trans (G12.trans g13)
          have cl := fun V => livesA V
          by_cases hz : nb = 0
          · subst hz
            go_wp2_with fail
            refine (cl _).mono ?_
            rintro e w15 ⟨rfl, g15⟩
            go_wp2
            go_ret
            exact ⟨rfl, G13.trans g15⟩
          · have z1 : 0 < (nb : Int) := by omega
            obtain ⟨b8, off8, rfl, _⟩ := hrw8.out.opened (by rw [← hnb.out]; omega)
            obtain ⟨nb, rfl⟩ : ∃ k, nb = k + 1 := ⟨nb - 1, by omega⟩
            have htl : (bs.take nb).length = nb := by rw [List.length_take, ← hnb.out]; omega
            have hrt : RwB w8 (some ⟨b8, off8, none⟩) (bs.take nb) := by
              rcases hrw8.out with h | ⟨b', off', h1, h2⟩
              · left; rw [h]; simp
              · exact .inr ⟨b', off', h1, h2.take _⟩
            have cu := aunpack1 T (some ⟨b8, off8, none⟩) cp8 (bs.take nb) w13 (by omega) (hrt.bl J13) (hbsb.out.take _) (by rw [htl]; omega) hn8.out (by rw [htl]; omega) hcap8
            rw [unR_unA hTB.out, htl] at cu
            have hlast := hless.out hno.out (by intro h; have := hnb.out; rw [h] at this; simp at this)
            rw [← hnb.out, Nat.add_sub_cancel] at hlast
            obtain ⟨RR1, hRR⟩ : ∃ RL, unA [] T.data.toList (bs.take nb) = (RL, 3) := ⟨_, Prod.ext rfl hlast⟩
            rw [hRR] at cu
            clear hlast hRR
            unfold UnQ at cu
            dsimp only at cu
            clear htl hrt
            go_wp2_with fail
            refine cu.mono ?_
            rintro e w14 ⟨A14, c14, xs14, rfl, _, _, g14⟩
            clear cu
            generalize xs14.length = n14 at *
            go_wp2_with fail
            refine (cl _).mono ?_
            rintro e w15 ⟨rfl, g15⟩
            go_wp2
            go_ret
            exact ⟨rfl, (G13.trans g14).trans g15⟩
        | true =>
          have hno : ¬ noB T.data.toList := hob.1 rfl
          replace hno := Lib.hid hno
          clear hob
          obtain ⟨RM, hRM⟩ : ∃ RL, unA [] T.data.toList (bs ++ [x]) = (RL, 0) := ⟨_, Prod.ext rfl ((hmore.out x).2 hno.out)⟩
          replace hRM := Lib.hid hRM
          have hmb : bs.length ≤ 2048 := by rw [← hnb.out]; exact hbl2
          go_wp2_with (first | (at_builtin; refine wp_app_b rfl (.tmp 79) (.tmp 80) rfl none 0 [] rfl wr.heap.size (OwB.nil _ _) A8 bs cp8 (by rw [← hnb.out]; rfl) hn8.out (hrw8.out.bl ((gg9.out).trans J)) (by rw [← hnb.out]; simp; omega) (Nat.le_refl _) ?_; intro A11 c11 w11 own11 by11 _; have G11 : Bl wr w11 := app_bl by11 (Bl.refl _) (.inl rfl) (Nat.le_refl _)) | (at_builtin; refine wp_app_b rfl (.tmp 84) (.tmp 86) rfl A11 c11 ([] ++ bs) rfl wr.heap.size (own11.bl ((Bl.refl _).alloc _)) (some ⟨w11.heap.size, 0, none⟩) [x] 1 rfl (by simp) (RwB.blk (L := [x]) (At.new w11 _ _)) (by rw [List.nil_append]; simp; omega) (by have := G11.size; simp; omega) ?_; intro A12 c12 w12 own12 by12 _; have G12 : Bl wr w12 := app_bl by12 (G11.alloc _) (by rcases ow_lies own11 with h | ⟨g, h1, h2, h3⟩; exact .inl h; exact .inr ⟨g, h1, h2, by simp; omega⟩) (Nat.le_refl _)) | fail)
          have e12 : ([] ++ bs ++ [x]).length = bs.length + 1 := by simp
          have cu := aunpack1 T A12 c12 ([] ++ bs ++ [x]) w12 (by omega) own12.rwb (by rw [List.nil_append]; exact hbsb.out.app (fun y hy => by simp at hy; subst hy; exact hx)) (by rw [e12]; omega) (own_caps own12).2.2 (own_caps own12).1 (own_caps own12).2.1
          rw [unR_unA hTB.out, List.nil_append, hRM.out, show (bs ++ [x]).length = bs.length + 1 by simp] at cu
          unfold UnQ at cu
          dsimp only at cu
          clear own12 own11 by11 by12 e12
          go_wp2_with fail
          refine cu.mono ?_
          rintro e w13 ⟨A13, c13, xs13, rfl, _, _, g13⟩
          clear cu
          generalize xs13.length = n13 at *
          have G13 := G10.trans (G12.trans g13)
          have J13 := (gg9.out.trans J).trans (G12.trans g13)
          have cl := fun V => livesA V
          by_cases hz : nb = 0
          · subst hz
            go_wp2_with fail
            refine (cl _).mono ?_
            rintro e w15 ⟨rfl, g15⟩
            go_wp2
            go_ret
            exact ⟨rfl, G13.trans g15⟩
          · have z1 : 0 < (nb : Int) := by omega
            obtain ⟨b8, off8, rfl, _⟩ := hrw8.out.opened (by rw [← hnb.out]; omega)
            obtain ⟨nb, rfl⟩ : ∃ k, nb = k + 1 := ⟨nb - 1, by omega⟩
            have htl : (bs.take nb).length = nb := by rw [List.length_take, ← hnb.out]; omega
            have hrt : RwB w8 (some ⟨b8, off8, none⟩) (bs.take nb) := by
              rcases hrw8.out with h | ⟨b', off', h1, h2⟩
              · left; rw [h]; simp
              · exact .inr ⟨b', off', h1, h2.take _⟩
            have cu := aunpack1 T (some ⟨b8, off8, none⟩) cp8 (bs.take nb) w13 (by omega) (hrt.bl J13) (hbsb.out.take _) (by rw [htl]; omega) hn8.out (by rw [htl]; omega) hcap8
            rw [unR_unA hTB.out, htl] at cu
            generalize unA [] T.data.toList (bs.take nb) = RR at *
            obtain ⟨RR1, RR2⟩ := RR
            unfold UnQ at cu
            dsimp only at cu
            clear htl hrt
            go_wp2_with fail
            refine cu.mono ?_
            rintro e w14 ⟨A14, c14, xs14, rfl, _, _, g14⟩
            clear cu
            generalize xs14.length = n14 at *
            go_wp2_with fail
            refine (cl _).mono ?_
            rintro e w15 ⟨rfl, g15⟩
            go_wp2
            go_ret
            exact ⟨rfl, (G13.trans g14).trans g15⟩

end Go.Proofs.YtaebbkfbapajkaaDoor
