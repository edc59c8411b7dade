/-
  What is proved: what Unpack of the document's package hands back of any text and any bytes. No conditions but bounds.
-/
import Derived.Test.YthkbenhlhldglaaDoorMe
namespace Go.Proofs.YthkbenhlhldglaaDoor
open Go.RowKit Go.Sort

def RuQ (w : World) (r : List Av × Int) (e : Ending) (w' : World) : Prop := ∃ A' c' X, e = .returned (.tuple #[.slice A' (X : List (Av × Value)).length c', .int .i64 r.2]) ∧ X.map Prod.fst = r.1 ∧ Vv w' A' X ∧ Bl w w'
theorem add_block (a : Addr) (q : Nat) : (a.add q).block = a.block := by unfold Addr.add; split <;> rfl
/-- The same, and where bytes lie: in those that came in. -/
def RuL (w : World) (A : Option Addr) (r : List Av × Int) (e : Ending) (w' : World) : Prop := ∃ A' c' X, e = .returned (.tuple #[.slice A' (X : List (Av × Value)).length c', .int .i64 r.2]) ∧ X.map Prod.fst = r.1 ∧ Vv w' A' X ∧ (∀ p ∈ X, Sv w p.2 p.1.b ∧ ∀ z, p.2.ownBlock = some z → A.map (·.block) = some z) ∧ Bl w w'
theorem RuL.none {w w' : World} {A : Option Addr} {k : Int} (h : Bl w w') : RuL w A ([], k) (.returned (.tuple #[.slice none 0 0, .int .i64 k])) w' := ⟨Option.none, 0, [], rfl, rfl, ⟨.inl rfl, fun p hp => by simp at hp⟩, fun p hp => by simp at hp, h⟩
theorem RuL.ru {w : World} {A : Option Addr} {r : List Av × Int} {e : Ending} {w' : World} (h : RuL w A r e w') : RuQ w r e w' := by
  obtain ⟨A', c', X, h1, h2, h3, _, h4⟩ := h
  exact ⟨A', c', X, h1, h2, h3, h4⟩
theorem RuQ.none {w w' : World} {k : Int} (h : Bl w w') : RuQ w ([], k) (.returned (.tuple #[.slice none 0 0, .int .i64 k])) w' := ⟨Option.none, 0, [], rfl, rfl, ⟨.inl rfl, fun p hp => by simp at hp⟩, h⟩
theorem cV_snoc (X : List (Av × Value)) (p : Av × Value) : cV (X ++ [p]) = cV X ++ c8 p := by rw [cV_app]; simp [cV]
theorem own_snoc {w : World} {B : Nat} {A : Option Addr} {c : Nat} {X : List (Av × Value)} {p : Av × Value} (h : w.ownsRow B 88 8 (.slice A (X.length + 1) c) (X.length + 1) (cV X ++ c8 p)) : OwV w B A c (X ++ [p]) := by
  unfold OwV; rw [List.length_append, cV_snoc]; exact h
theorem n4_drop (L : List Int) (j : Nat) : n4 (L.drop j) = L.getD j 0 * 16777216 + L.getD (j + 1) 0 * 65536 + L.getD (j + 2) 0 * 256 + L.getD (j + 3) 0 := by
  unfold n4
  simp only [List.getD_eq_getElem?_getD, List.getElem?_drop, Nat.add_zero]
/-- Four bytes of a row, read as a number. -/
theorem num2 (b off c at0 : Nat) (L : List Int) (w : World) (hr : RowB w b off L) (hb : ∀ x ∈ L, 0 ≤ x ∧ x ≤ 255) (hn : at0 + 4 ≤ L.length) (hm : L.length ≤ 1000000) (z : Int) (hz : z = at0) :
    Calls Tryd.prog 75 #[.slice (some ⟨b, off, none⟩) L.length c, .int .i64 z] w (Rt w (.int .i64 (n4 (L.drop at0)))) := by
  subst hz
  rw [n4_drop]
  exact num1 b off L.length c at0 _ _ _ _ w (hr.at (by omega)) (hr.at (by omega)) (hr.at (by omega)) (hr.at (by omega)) (getD_by hb _) (getD_by hb _) (getD_by hb _) (getD_by hb _) hn hm
theorem RowB.bl' {w w' : World} {b off : Nat} {L : List Int} (h : RowB w b off L) (g : Bl w w') : RowB w' b off L := fun i x hx => g.keep (h i x hx)
theorem n4_bd {L : List Int} (hb : ∀ x ∈ L, 0 ≤ x ∧ x ≤ 255) : 0 ≤ n4 L ∧ n4 L ≤ 4294967295 := by
  have := getD_by hb 0; have := getD_by hb 1; have := getD_by hb 2; have := getD_by hb 3
  unfold n4; omega

set_option maxRecDepth 100000 in
set_option maxHeartbeats 16000000 in
theorem runpackL1 (s : ByteArray) (A : Option Addr) (cap : Nat) (L : List Int) (w : World) (hs : s.size ≤ 1000) (hA : RwB w A L) (hb : ∀ x ∈ L, 0 ≤ x ∧ x ≤ 255) (hl : L.length ≤ 1000000) (hn : A = none → cap = 0) (hle : L.length ≤ cap) (hcap : cap ≤ maxLen) :
    Calls Tryd.prog 52 #[.string s, .slice A L.length cap] w (RuL w A (unR s.data.toList L)) := by
  have hsz : s.data.toList.length = s.size := rfl
  have cf := fun V => rform1 s V hs
  unfold unR
  cases hf : formB s.data.toList with
  | false =>
    rw [if_neg (by simp)]
    rw [hf] at cf
    generalize L.length = m at *
    go_enter Tryd.func52, Tryd.ntmps52
    go_wp2_with fail
    refine (cf _).mono ?_
    rintro e w1 ⟨rfl, g1⟩
    go_wp2
    go_ret2
    exact .none g1
  | true =>
    rw [if_pos rfl]
    rw [hf] at cf
    have h8 := formB_len hf
    rw [hsz] at h8
    have hmem := formR_mem _ (formB_R hf)
    have hcm : (cap : Int) ≤ 9223372036854775807 := by unfold maxLen at hcap; omega
    obtain ⟨n, hnn⟩ : ∃ n, n = s.size := ⟨_, rfl⟩
    have hn8 : n ≤ 8 := by omega
    have hsn : (s.size : Int) = n := by rw [hnn]
    generalize hR : unA [] s.data.toList L = R
    obtain ⟨m, hmm⟩ : ∃ m, m = L.length := ⟨_, rfl⟩
    rw [← hmm] at hl hle ⊢
    replace hR := Lib.hid hR
    replace hnn := Lib.hid hnn
    replace hsz := Lib.hid hsz
    replace hmem := Lib.hid hmem
    replace hb := Lib.hid hb
    replace hn := Lib.hid hn
    replace hcap := Lib.hid hcap
    replace hmm := Lib.hid hmm
    clear hf h8 hs
    go_enter Tryd.func52, Tryd.ntmps52
    go_wp2_with fail
    refine (cf _).mono ?_
    rintro e w1 ⟨rfl, g1⟩
    clear cf
    go_wp2
    replace hsn := Lib.hid hsn
    go_loopw [7, 8, 9] (fun l a i wr => ∃ k q Al cl X, k ≤ n ∧ i = .int .i64 ((k : Nat) : Int) ∧ a = .int .i64 ((q : Nat) : Int) ∧ q ≤ m ∧ l = .slice Al (X : List (Av × Value)).length cl ∧ OwV wr w.heap.size Al cl X ∧ Hid (∀ p ∈ X, Sv w p.2 p.1.b ∧ ∀ z, p.2.ownBlock = some z → A.map (·.block) = some z) ∧ Bl w wr ∧ X.length ≤ k ∧
      Hid (unA (X.map Prod.fst) (s.data.toList.drop k) (L.drop q) = R)) (fun _ _ i _ => n - (intOf i).toNat)
    case atStart => exact ⟨0, 0, none, 0, [], Nat.zero_le _, rfl, rfl, Nat.zero_le _, rfl, OwV.nil _ _, Lib.hid (fun p hp => by simp at hp), g1, Nat.le_refl _, hR⟩
    case round =>
      obtain ⟨k, q, Al, cl, X, hk, rfl, rfl, hq, rfl, own, hsv, G, hXl, hp⟩ := hrel
      by_cases hlt : k < n
      · have q1 : (k : Int) < n := by omega
        have q2 : (k : Int) < (s.size : Int) := by rw [← hnn.out] ; exact q1
        have q3 : k < s.size := by rw [← hnn.out]; exact hlt
        have hc := letter_at s q3
        have hm := hmem.out s[k] (List.mem_of_getElem? hc)
        have hMl : (L.drop q).length = m - q := by rw [List.length_drop, hmm.out]
        have hMb : ∀ x ∈ L.drop q, 0 ≤ x ∧ x ≤ 255 := fun x hx => hb.out x (List.mem_of_mem_drop hx)
        have hstep : ∀ c, s[k] = c → ¬ m - q < gn c (L.drop q) → ∀ v, unA ((X ++ [(gv c (L.drop q), v)]).map Prod.fst) (s.data.toList.drop (k + 1)) (L.drop (q + gn c (L.drop q))) = R := by
          intro c he h v
          rw [← hp.out, drop_at hc, he]
          simp only [unA]
          rw [hMl, if_neg h, List.drop_drop, List.map_append]
          rfl
        have hstop : ∀ c, s[k] = c → m - q < gn c (L.drop q) → R = ([], 3) := by
          intro c he h
          rw [← hp.out, drop_at hc, he]
          simp only [unA]
          rw [hMl, if_pos h]
        have hlit : ∀ c : UInt8, s[k] = c → (s[k].toNat : Int) = c.toNat := fun c h => by rw [h]
        replace hc := Lib.hid hc
        replace hMl := Lib.hid hMl
        replace hMb := Lib.hid hMb
        replace hstep := Lib.hid hstep
        replace hstop := Lib.hid hstop
        replace hsv := Lib.hid hsv.out
        have hqi : (q : Int) ≤ m := by omega
        have hsub : (m : Int) - q = ((m - q : Nat) : Int) := by omega
        rcases hm with hm | hm | hm | hm | hm
        · have e0 := hlit 105 hm
          simp only [UInt8.reduceToNat] at e0
          have hc0 := Lib.hid hm
          clear hm hlit
          by_cases hle4 : m - q < 4
          · have h4 : ((m - q : Nat) : Int) < 4 := by omega
            have hz := hstop.out 105 hc0.out (by show m - q < 4; omega)
            replace hz := Lib.hid hz
            clear hA
            go_wp2
            go_ret2
            rw [hz.out]
            exact .none G
          · have h4 : ¬ ((m - q : Nat) : Int) < 4 := by omega
            obtain ⟨b, off, rfl, hr⟩ := hA.opened (by rw [← hmm.out]; omega)
            have cn := fun V (g : Bl w V) => num2 b off cap q L V (fun i x hx => g.keep (hr i x hx)) hb.out (by rw [← hmm.out]; omega) (by rw [← hmm.out]; omega) q rfl
            rw [← hmm.out] at cn
            have hbd := n4_bd hMb.out
            have hz := hstep.out 105 hc0.out (by show ¬ m - q < 4; omega) (.slice none 0 0)
            have hg : gv 105 (L.drop q) = vI (sg (n4 (L.drop q))) := rfl
            have hgn : gn 105 (L.drop q) = 4 := rfl
            rw [hg, hgn] at hz
            clear hg hgn
            have h40 : ((q + 4 : Nat) : Int) = (q : Int) + 4 := by omega
            have cg := fun V => sign1 (n4 (L.drop q)) hbd.1 hbd.2 V
            generalize n4 (L.drop q) = N at *
            generalize sg N = N2 at *
            replace hz := Lib.hid hz
            replace hr := Lib.hid hr
            replace cn := Lib.hid cn
            replace h40 := Lib.hid h40
            obtain ⟨hbd1, hbd2⟩ := hbd
            go_wp2_with fail
            refine (cn.out _ G).mono ?_
            rintro e w2 ⟨rfl, g2⟩
            have G2 := G.gr g2
            go_wp2_with fail
            refine (cg _).mono ?_
            rintro e w3 ⟨rfl, g3⟩
            have G3 := G2.gr g3
            have own1 := own.bl ((g2.bl.gr g3).alloc (.cells (c8 (vI N2, .slice none 0 0)).toArray 88))
            have hz3 := G3.size
            go_wp2_with (at_builtin; refine wp_app_gen Tryd.underlying86 infoV rfl (by decide) (by decide) rfl (.tmp 53) (.tmp 56) rfl Al X.length cl (cV X) rfl w.heap.size own1 (some ⟨w3.heap.size, 0, none⟩) 1 1 (c8 (vI N2, .slice none 0 0)) rfl (by simp) (by rw [c8_len]) (News.at 1 (At.new w3 _ _)) (c8_one ⟨_, _, _, rfl⟩) (by omega) (by simp; omega) ?_; intro A2 c2 w4 own2 by2 _; have G4 : Bl w w4 := app_bl by2 (G3.alloc _) (ow_lies own1) (Nat.le_refl _))
            go_roundw
            case rel => exact ⟨k + 1, q + 4, A2, c2, X ++ [(vI N2, .slice none 0 0)], by omega, by go_num, by rw [h40.out], by omega, by simp, own_snoc own2, Lib.hid (fun p hp => by
              rcases List.mem_append.1 hp with hp | hp
              · exact hsv.out p hp
              · simp at hp; subst hp; exact ⟨Sv.nil _, fun z hz => by rw [slice_nil_block] at hz; cases hz⟩), G4, by simp; omega, hz⟩
            case measure => simp [intOf]; omega
        · have e0 := hlit 117 hm
          simp only [UInt8.reduceToNat] at e0
          have hc0 := Lib.hid hm
          clear hm hlit
          by_cases hle4 : m - q < 4
          · have h4 : ((m - q : Nat) : Int) < 4 := by omega
            have hz := hstop.out 117 hc0.out (by show m - q < 4; omega)
            replace hz := Lib.hid hz
            clear hA
            go_wp2
            go_ret2
            rw [hz.out]
            exact .none G
          · have h4 : ¬ ((m - q : Nat) : Int) < 4 := by omega
            obtain ⟨b, off, rfl, hr⟩ := hA.opened (by rw [← hmm.out]; omega)
            have cn := fun V (g : Bl w V) => num2 b off cap q L V (fun i x hx => g.keep (hr i x hx)) hb.out (by rw [← hmm.out]; omega) (by rw [← hmm.out]; omega) q rfl
            rw [← hmm.out] at cn
            have hbd := n4_bd hMb.out
            have hz := hstep.out 117 hc0.out (by show ¬ m - q < 4; omega) (.slice none 0 0)
            have hg : gv 117 (L.drop q) = vI (n4 (L.drop q)) := rfl
            have hgn : gn 117 (L.drop q) = 4 := rfl
            rw [hg, hgn] at hz
            clear hg hgn
            have h40 : ((q + 4 : Nat) : Int) = (q : Int) + 4 := by omega
            generalize n4 (L.drop q) = N at *
            replace hz := Lib.hid hz
            replace hr := Lib.hid hr
            replace cn := Lib.hid cn
            replace h40 := Lib.hid h40
            obtain ⟨hbd1, hbd2⟩ := hbd
            go_wp2_with fail
            refine (cn.out _ G).mono ?_
            rintro e w2 ⟨rfl, g2⟩
            have G2 := G.gr g2
            have own1 := own.bl (g2.bl.alloc (.cells (c8 (vI N, .slice none 0 0)).toArray 88))
            have hz3 := G2.size
            go_wp2_with (at_builtin; refine wp_app_gen Tryd.underlying86 infoV rfl (by decide) (by decide) rfl (.tmp 53) (.tmp 56) rfl Al X.length cl (cV X) rfl w.heap.size own1 (some ⟨w2.heap.size, 0, none⟩) 1 1 (c8 (vI N, .slice none 0 0)) rfl (by simp) (by rw [c8_len]) (News.at 1 (At.new w2 _ _)) (c8_one ⟨_, _, _, rfl⟩) (by omega) (by simp; omega) ?_; intro A2 c2 w4 own2 by2 _; have G4 : Bl w w4 := app_bl by2 (G2.alloc _) (ow_lies own1) (Nat.le_refl _))
            go_roundw
            case rel => exact ⟨k + 1, q + 4, A2, c2, X ++ [(vI N, .slice none 0 0)], by omega, by go_num, by rw [h40.out], by omega, by simp, own_snoc own2, Lib.hid (fun p hp => by
              rcases List.mem_append.1 hp with hp | hp
              · exact hsv.out p hp
              · simp at hp; subst hp; exact ⟨Sv.nil _, fun z hz => by rw [slice_nil_block] at hz; cases hz⟩), G4, by simp; omega, hz⟩
            case measure => simp [intOf]; omega
        · have e0 := hlit 115 hm
          simp only [UInt8.reduceToNat] at e0
          have hc0 := Lib.hid hm
          clear hm hlit
          have hgn1 : (L.drop q).length = 0 → gn 115 (L.drop q) = 1 := fun h => by unfold gn; rw [if_neg (by decide), if_neg (by decide), if_neg (by decide), if_pos h]
          have hgn2 : ¬ (L.drop q).length = 0 → gn 115 (L.drop q) = 1 + ((L.drop q).getD 0 0).toNat := fun h => by unfold gn; rw [if_neg (by decide), if_neg (by decide), if_neg (by decide), if_neg h]
          rw [hMl.out] at hgn1 hgn2
          by_cases hle1 : m - q < 1
          · have h4 : ((m - q : Nat) : Int) < 1 := by omega
            have hz := hstop.out 115 hc0.out (by rw [hgn1 (by omega)]; exact hle1)
            replace hz := Lib.hid hz
            clear hA
            go_wp2
            go_ret2
            rw [hz.out]
            exact .none G
          · have h4 : ¬ ((m - q : Nat) : Int) < 1 := by omega
            have hgn := hgn2 (by omega)
            clear hgn1 hgn2
            obtain ⟨b, off, rfl, hr⟩ := hA.opened (by rw [← hmm.out]; omega)
            have hrd := hr.drop q
            have k0 := G.keep (hrd.at (i := 0) (by rw [hMl.out]; omega))
            rw [Nat.add_zero] at k0
            have hyb := getD_by hMb.out 0
            obtain ⟨Y, hY⟩ : ∃ Y : Nat, (L.drop q).getD 0 0 = Y := ⟨((L.drop q).getD 0 0).toNat, by omega⟩
            rw [hY] at k0 hyb hgn
            have hYt : ((Y : Int)).toNat = Y := by omega
            rw [hYt] at hgn
            have hY8 : Y ≤ 255 := by omega
            have hq3 : (q : Int) < m := by omega
            have w1' : IntKind.i64.wrap (Y : Int) = (Y : Int) := IntWalk.i64_in _ (by omega)
            by_cases hle2 : m - q < 1 + Y
            · have h5 : ((m - q : Nat) : Int) < 1 + (Y : Int) := by omega
              have hz := hstop.out 115 hc0.out (by rw [hgn]; exact hle2)
              replace hz := Lib.hid hz
              go_wp2
              go_ret2
              rw [hz.out]
              exact .none G
            · have h5 : ¬ ((m - q : Nat) : Int) < 1 + (Y : Int) := by omega
              have hz := hstep.out 115 hc0.out (by rw [hgn]; exact hle2) (.slice none 0 0)
              have hg : gv 115 (L.drop q) = vS (tx (((L.drop q).drop 1).take (1 + Y - 1))) := by rw [← hgn]; rfl
              rw [hg, hgn, Nat.add_sub_cancel_left] at hz
              clear hg hgn
              have hlY : (((L.drop q).drop 1).take Y).length = Y := by rw [List.length_take, List.length_drop, hMl.out]; omega
              have tY := Sv.text (w := wr) (A := some ⟨b, off + q + 1, none⟩) (c := cap - (q + 1)) (L := ((L.drop q).drop 1).take Y) (.inr ⟨b, off + q + 1, rfl, ((hrd.drop 1).take Y).bl' G⟩)
              have t0 := fun (h : ((L.drop q).drop 1).take Y = []) => Sv.text (w := wr) (A := some ⟨b, off, none⟩) (c := cap - (q + 1)) (L := ((L.drop q).drop 1).take Y) (.inl h)
              change _ = Result.ok (Value.string (tx (((L.drop q).drop 1).take Y))) wr at tY
              change _ → _ = Result.ok (Value.string (tx (((L.drop q).drop 1).take Y))) wr at t0
              rw [hlY, Nat.add_assoc] at tY
              rw [hlY] at t0
              have t1 : Y = 0 → _ := fun h => t0 (List.eq_nil_of_length_eq_zero (by rw [hlY]; exact h))
              clear t0
              generalize tx (((L.drop q).drop 1).take Y) = T at *
              have h40 : ((q + (1 + Y) : Nat) : Int) = (q : Int) + 1 + Y := by omega
              have own1 := own.bl ((Bl.refl wr).alloc (.cells (c8 (vS T, .slice none 0 0)).toArray 88))
              have hz3 := G.size
              replace hz := Lib.hid hz
              replace h40 := Lib.hid h40
              replace hlY := Lib.hid hlY
              by_cases hcq : cap = q + 1
              · have hY0 : Y = 0 := by omega
                have t2 := t1 hY0
                replace hY0 := Lib.hid hY0
                clear tY t1
                have hd : (cap = q + 1) = True := eq_true hcq
                replace hcq := Lib.hid hcq
                go_wp2_with (at_builtin; refine wp_app_gen Tryd.underlying86 infoV rfl (by decide) (by decide) rfl (.tmp 73) (.tmp 84) rfl Al X.length cl (cV X) rfl w.heap.size own1 (some ⟨wr.heap.size, 0, none⟩) 1 1 (c8 (vS T, .slice none 0 0)) rfl (by simp) (by rw [c8_len]) (News.at 1 (At.new wr _ _)) (c8_one ⟨_, _, _, rfl⟩) (by omega) (by simp; omega) ?_; intro A2 c2 w4 own2 by2 _; have G4 : Bl w w4 := app_bl by2 (G.alloc _) (ow_lies own1) (Nat.le_refl _))
                go_roundw
                case rel => exact ⟨k + 1, q + (1 + Y), A2, c2, X ++ [(vS T, .slice none 0 0)], by omega, by go_num, by rw [h40.out], by omega, by simp, own_snoc own2, Lib.hid (fun p hp => by
                    rcases List.mem_append.1 hp with hp | hp
                    · exact hsv.out p hp
                    · simp at hp; subst hp; exact ⟨Sv.nil _, fun z hz => by rw [slice_nil_block] at hz; cases hz⟩), G4, by simp; omega, hz⟩
                case measure => simp [intOf]; omega
              · clear t1
                go_wp2_with (at_builtin; refine wp_app_gen Tryd.underlying86 infoV rfl (by decide) (by decide) rfl (.tmp 73) (.tmp 84) rfl Al X.length cl (cV X) rfl w.heap.size own1 (some ⟨wr.heap.size, 0, none⟩) 1 1 (c8 (vS T, .slice none 0 0)) rfl (by simp) (by rw [c8_len]) (News.at 1 (At.new wr _ _)) (c8_one ⟨_, _, _, rfl⟩) (by omega) (by simp; omega) ?_; intro A2 c2 w4 own2 by2 _; have G4 : Bl w w4 := app_bl by2 (G.alloc _) (ow_lies own1) (Nat.le_refl _))
                go_roundw
                case rel => exact ⟨k + 1, q + (1 + Y), A2, c2, X ++ [(vS T, .slice none 0 0)], by omega, by go_num, by rw [h40.out], by omega, by simp, own_snoc own2, Lib.hid (fun p hp => by
                    rcases List.mem_append.1 hp with hp | hp
                    · exact hsv.out p hp
                    · simp at hp; subst hp; exact ⟨Sv.nil _, fun z hz => by rw [slice_nil_block] at hz; cases hz⟩), G4, by simp; omega, hz⟩
                case measure => simp [intOf]; omega
        · have e0 := hlit 114 hm
          simp only [UInt8.reduceToNat] at e0
          have hc0 := Lib.hid hm
          clear hm hlit
          by_cases hle4 : m - q < 16
          · have h4 : ((m - q : Nat) : Int) < 16 := by omega
            have hz := hstop.out 114 hc0.out (by show m - q < 16; omega)
            replace hz := Lib.hid hz
            clear hA
            go_wp2
            go_ret2
            rw [hz.out]
            exact .none G
          · have h4 : ¬ ((m - q : Nat) : Int) < 16 := by omega
            obtain ⟨b, off, rfl, hr⟩ := hA.opened (by rw [← hmm.out]; omega)
            have cn := fun (j : Nat) (hj : q + j + 4 ≤ m) V (g : Bl w V) z hz => num2 b off cap (q + j) L V (fun i x hx => g.keep (hr i x hx)) hb.out (by rw [← hmm.out]; exact hj) (by rw [← hmm.out]; omega) z hz
            rw [← hmm.out] at cn
            have hbd := fun j => n4_bd (L := L.drop j) (fun x hx => hb.out x (List.mem_of_mem_drop hx))
            have hz := hstep.out 114 hc0.out (by show ¬ m - q < 16; omega) (.slice none 0 0)
            have hg : gv 114 (L.drop q) = vR (sg (n4 (L.drop q))) (sg (n4 (L.drop (q + 4)))) (sg (n4 (L.drop (q + 8)))) (sg (n4 (L.drop (q + 12)))) := by
              rw [← List.drop_drop, ← List.drop_drop, ← List.drop_drop]; rfl
            have hgn : gn 114 (L.drop q) = 16 := rfl
            rw [hg, hgn] at hz
            clear hg hgn
            have c0 := cn 0 (by omega)
            have c1 := cn 4 (by omega)
            have c2 := cn 8 (by omega)
            have c3 := cn 12 (by omega)
            rw [Nat.add_zero] at c0
            have s0 := fun V => sign1 (n4 (L.drop q)) (hbd q).1 (hbd q).2 V
            have s1 := fun V => sign1 (n4 (L.drop (q + 4))) (hbd _).1 (hbd _).2 V
            have s2 := fun V => sign1 (n4 (L.drop (q + 8))) (hbd _).1 (hbd _).2 V
            have s3 := fun V => sign1 (n4 (L.drop (q + 12))) (hbd _).1 (hbd _).2 V
            clear hbd cn
            generalize n4 (L.drop q) = N0 at *
            generalize n4 (L.drop (q + 4)) = N1 at *
            generalize n4 (L.drop (q + 8)) = N2 at *
            generalize n4 (L.drop (q + 12)) = N3 at *
            generalize sg N0 = R0 at *
            generalize sg N1 = R1 at *
            generalize sg N2 = R2 at *
            generalize sg N3 = R3 at *
            have h40 : ((q + 16 : Nat) : Int) = (q : Int) + 16 := by omega
            replace hz := Lib.hid hz
            replace hr := Lib.hid hr
            replace h40 := Lib.hid h40
            replace c0 := Lib.hid c0
            replace c1 := Lib.hid c1
            replace c2 := Lib.hid c2
            replace c3 := Lib.hid c3
            have K0 := Bl.refl wr
            go_wp2_with fail
            refine (c0.out _ (G.trans K0) _ (by simp)).mono ?_
            rintro e v0 ⟨rfl, g0⟩
            have J0 := K0.gr g0
            go_wp2_with fail
            refine (s0 _).mono ?_
            rintro e u0 ⟨rfl, f0⟩
            have K1 := J0.gr f0
            clear g0 f0 J0
            go_wp2_with fail
            refine (c1.out _ (G.trans K1) _ (by simp)).mono ?_
            rintro e v1 ⟨rfl, g1⟩
            have J1 := K1.gr g1
            go_wp2_with fail
            refine (s1 _).mono ?_
            rintro e u1 ⟨rfl, f1⟩
            have K2 := J1.gr f1
            clear g1 f1 J1
            go_wp2_with fail
            refine (c2.out _ (G.trans K2) _ (by simp)).mono ?_
            rintro e v2 ⟨rfl, g2⟩
            have J2 := K2.gr g2
            go_wp2_with fail
            refine (s2 _).mono ?_
            rintro e u2 ⟨rfl, f2⟩
            have K3 := J2.gr f2
            clear g2 f2 J2
            go_wp2_with fail
            refine (c3.out _ (G.trans K3) _ (by simp)).mono ?_
            rintro e v3 ⟨rfl, g3⟩
            have J3 := K3.gr g3
            go_wp2_with fail
            refine (s3 _).mono ?_
            rintro e u3 ⟨rfl, f3⟩
            have K4 := J3.gr f3
            clear g3 f3 J3
            have G3 := G.trans K4
            have own1 := own.bl (K4.alloc (.cells (c8 (vR R0 R1 R2 R3, .slice none 0 0)).toArray 88))
            have hz3 := G3.size
            go_wp2_with (at_builtin; refine wp_app_gen Tryd.underlying86 infoV rfl (by decide) (by decide) rfl (.tmp 94) (.tmp 116) rfl Al X.length cl (cV X) rfl w.heap.size own1 (some ⟨u3.heap.size, 0, none⟩) 1 1 (c8 (vR R0 R1 R2 R3, .slice none 0 0)) rfl (by simp) (by rw [c8_len]) (News.at 1 (At.new u3 _ _)) (c8_one ⟨_, _, _, rfl⟩) (by omega) (by simp; omega) ?_; intro A2 c2 w4 own2 by2 _; have G4 : Bl w w4 := app_bl by2 (G3.alloc _) (ow_lies own1) (Nat.le_refl _))
            go_roundw
            case rel => exact ⟨k + 1, q + 16, A2, c2, X ++ [(vR R0 R1 R2 R3, .slice none 0 0)], by omega, by go_num, by rw [h40.out], by omega, by simp, own_snoc own2, Lib.hid (fun p hp => by
              rcases List.mem_append.1 hp with hp | hp
              · exact hsv.out p hp
              · simp at hp; subst hp; exact ⟨Sv.nil _, fun z hz => by rw [slice_nil_block] at hz; cases hz⟩), G4, by simp; omega, hz⟩
            case measure => simp [intOf]; omega
        · have e0 := hlit 98 hm
          simp only [UInt8.reduceToNat] at e0
          have hc0 := Lib.hid hm
          clear hm hlit
          have hgn : gn 98 (L.drop q) = m - q := by rw [← hMl.out]; rfl
          have hz := fun v => hstep.out 98 hc0.out (by rw [hgn]; omega) v
          have hg : gv 98 (L.drop q) = vB (L.drop q) := rfl
          rw [hgn, hg, show q + (m - q) = m from by omega] at hz
          clear hg hgn
          have hz3 := G.size
          have hqm := hle
          by_cases hcq : q = cap
          · have hM0 : m - q = 0 := by omega
            have hv : Sv w (.slice A (m - q) (cap - q)) (L.drop q) := ⟨A, cap - q, by rw [hMl.out], fun h => by have := hn.out h; omega, by rw [hMl.out]; omega, by have := hcap.out; omega, .inl (List.eq_nil_of_length_eq_zero (by rw [hMl.out]; exact hM0))⟩
            have own1 := own.bl ((Bl.refl wr).alloc (.cells (c8 (vB (L.drop q), .slice A (m - q) (cap - q))).toArray 88))
            have hd : (q = cap) = True := eq_true hcq
            have hd2 : (cap = q) = True := eq_true hcq.symm
            replace hcq := Lib.hid hcq
            replace hM0 := Lib.hid hM0
            replace hz := Lib.hid (hz (.slice A (m - q) (cap - q)))
            replace hv := Lib.hid hv
            go_wp2_with (at_builtin; refine wp_app_gen Tryd.underlying86 infoV rfl (by decide) (by decide) rfl (.tmp 30) (.tmp 35) rfl Al X.length cl (cV X) rfl w.heap.size own1 (some ⟨wr.heap.size, 0, none⟩) 1 1 (c8 (vB (L.drop q), .slice A (m - q) (cap - q))) rfl (by simp) (by rw [c8_len]) (News.at 1 (At.new wr _ _)) (c8_one ⟨_, _, _, rfl⟩) (by omega) (by simp; omega) ?_; intro A2 c2 w4 own2 by2 _; have G4 : Bl w w4 := app_bl by2 (G.alloc _) (ow_lies own1) (Nat.le_refl _))
            go_roundw
            case rel => exact ⟨k + 1, m, A2, c2, X ++ [(vB (L.drop q), .slice A (m - q) (cap - q))], by omega, by go_num, rfl, Nat.le_refl _, by simp, own_snoc own2, Lib.hid (fun p hp => by
                rcases List.mem_append.1 hp with hp | hp
                · exact hsv.out p hp
                · simp at hp; subst hp; exact ⟨hv.out, fun z hz => by rw [slice_block] at hz; exact hz⟩), G4, by simp; omega, hz⟩
            case measure => simp [intOf]; omega
          · cases A with
            | none =>
              have := hn.out rfl
              omega
            | some ad =>
              have hv : Sv w (.slice (some (ad.add q)) (m - q) (cap - q)) (L.drop q) := ⟨some (ad.add q), cap - q, by rw [hMl.out], (fun h => (by cases h)), by rw [hMl.out]; omega, by have := hcap.out; omega, by
                rcases hA with h | ⟨b, off, h1, h2⟩
                · left; rw [h]; simp
                · cases h1
                  exact .inr ⟨b, off + q, by rw [add_lit'], h2.drop q⟩⟩
              have own1 := own.bl ((Bl.refl wr).alloc (.cells (c8 (vB (L.drop q), .slice (some (ad.add q)) (m - q) (cap - q))).toArray 88))
              replace hz := Lib.hid (hz (.slice (some (ad.add q)) (m - q) (cap - q)))
              replace hv := Lib.hid hv
              go_wp2_with (at_builtin; refine wp_app_gen Tryd.underlying86 infoV rfl (by decide) (by decide) rfl (.tmp 30) (.tmp 35) rfl Al X.length cl (cV X) rfl w.heap.size own1 (some ⟨wr.heap.size, 0, none⟩) 1 1 (c8 (vB (L.drop q), .slice (some (ad.add q)) (m - q) (cap - q))) rfl (by simp) (by rw [c8_len]) (News.at 1 (At.new wr _ _)) (c8_one ⟨_, _, _, rfl⟩) (by omega) (by simp; omega) ?_; intro A2 c2 w4 own2 by2 _; have G4 : Bl w w4 := app_bl by2 (G.alloc _) (ow_lies own1) (Nat.le_refl _))
              go_roundw
              case rel => exact ⟨k + 1, m, A2, c2, X ++ [(vB (L.drop q), .slice (some (ad.add q)) (m - q) (cap - q))], by omega, by go_num, rfl, Nat.le_refl _, by simp, own_snoc own2, Lib.hid (fun p hp => by
                rcases List.mem_append.1 hp with hp | hp
                · exact hsv.out p hp
                · simp at hp; subst hp; exact ⟨hv.out, fun z hz => by rw [slice_block] at hz; simpa [add_block] using hz⟩), G4, by simp; omega, hz⟩
              case measure => simp [intOf]; omega
      · have q1 : ¬ (k : Int) < (s.size : Int) := by rw [hsn.out]; omega
        have hkn : k = n := by omega
        have hfin : R = if (L.drop q).length = 0 then (X.map Prod.fst, 0) else ([], 2) := by
          rw [← hp.out, List.drop_of_length_le (by rw [hsz.out, ← hnn.out]; omega)]
          simp only [unA]
        rw [List.length_drop, ← hmm.out] at hfin
        replace hkn := Lib.hid hkn
        replace hfin := Lib.hid hfin
        by_cases hz : m - q = 0
        · have hz' : ¬ (q : Int) < m := by omega
          clear hp
          go_wp2
          go_ret2
          rw [hfin.out, if_pos hz]
          exact ⟨Al, cl, X, rfl, rfl, own.vv fun p hp => (hsv.out p hp).1.bl G, hsv.out, G⟩
        · have hz' : (q : Int) < m := by omega
          have e : R = ([], 2) := by rw [hfin.out, if_neg hz]
          replace e := Lib.hid e
          clear hp
          go_wp2
          go_ret2
          rw [e.out]
          exact .none G
theorem runpack1 (s : ByteArray) (A : Option Addr) (cap : Nat) (L : List Int) (w : World) (hs : s.size ≤ 1000) (hA : RwB w A L) (hb : ∀ x ∈ L, 0 ≤ x ∧ x ≤ 255) (hl : L.length ≤ 1000000) (hn : A = none → cap = 0) (hle : L.length ≤ cap) (hcap : cap ≤ maxLen) :
    Calls Tryd.prog 52 #[.string s, .slice A L.length cap] w (RuQ w (unR s.data.toList L)) :=
  (runpackL1 s A cap L w hs hA hb hl hn hle hcap).mono fun _ _ h => h.ru

end Go.Proofs.YthkbenhlhldglaaDoor
