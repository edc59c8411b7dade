/-
  What is proved: what Pack of package args hands back of any text and any arguments. No conditions but bounds. what Pack of the document's package hands back of any text and any arguments. No conditions but bounds.
-/
import Derived.Test.YthkbenhlhldglaaDoorUg
import Derived.Test.YthkbenhlhldglaaDoorUh
import Derived.Deep.RegionHeld3
namespace Go.Proofs.YthkbenhlhldglaaDoor
open Go.RowKit Go.Sort

/-- What Pack tells. -/
def pkE : Option (List Int) → List Int × Int
  | none => ([], 1)
  | some b => if 4096 < b.length then ([], 7) else (b, 0)
def pkR (f : List UInt8) (l : List Av) : List Int × Int :=
  if formB f = true ∧ l.length = f.length then pkE (pkA [] f l) else ([], 1)
def PackQ (w : World) (r : List Int × Int) (e : Ending) (w' : World) : Prop := ∃ A' c', e = .returned (.tuple #[.slice A' r.1.length c', .int .i64 r.2]) ∧ Sv w' (.slice A' r.1.length c') r.1 ∧ Bl w w'
theorem PackQ.none {w w' : World} {k : Int} (h : Bl w w') : PackQ w ([], k) (.returned (.tuple #[.slice none 0 0, .int .i64 k])) w' := ⟨Option.none, 0, rfl, Sv.nil _, h⟩
theorem put_len {c : UInt8} {v : Av} {b : List Int} (h : put c v = some b) : b.length ≤ 4096 := by
  unfold put at h
  split at h
  · split at h
    · cases h; rw [d4_len]; omega
    · cases h
  · split at h
    · split at h
      · cases h; rw [d4_len]; omega
      · cases h
    · split at h
      · split at h
        · rename_i h'; cases h; simp [tb_len]; omega
        · cases h
      · split at h
        · split at h
          · cases h; simp [d4_len]
          · cases h
        · split at h
          · split at h
            · rename_i h'; cases h; exact h'.2
            · cases h
          · cases h
theorem drop_at {α : Type} {l : List α} {k : Nat} {x : α} (h : l[k]? = some x) : l.drop k = x :: l.drop (k + 1) := by
  have hl : k < l.length := by
    rcases Nat.lt_or_ge k l.length with h' | h'
    · exact h'
    · rw [List.getElem?_eq_none h'] at h; cases h
  rw [List.drop_eq_getElem_cons hl]
  rw [List.getElem?_eq_getElem hl] at h
  rw [Option.some.inj h]
theorem formB_len {f : List UInt8} (h : formB f = true) : f.length ≤ 8 := by
  unfold formB at h; rw [Bool.and_eq_true, decide_eq_true_iff] at h; exact h.2
theorem formB_R {f : List UInt8} (h : formB f = true) : formR f = true := by
  unfold formB at h; rw [Bool.and_eq_true] at h; exact h.1
/-- How a text's letters are met. -/
theorem letter_at (s : ByteArray) {k : Nat} (h : k < s.size) : s.data.toList[k]? = some s[k] := by
  rw [List.getElem?_eq_getElem (show k < s.data.toList.length from h)]; rfl

set_option maxRecDepth 100000 in
set_option maxHeartbeats 4000000 in
theorem apack1 (s : ByteArray) (A : Option Addr) (c : Nat) (xs : List Value) (l : List Av) (w : World) (hs : s.size ≤ 1000) (_hl : l.length ≤ 1000000) (hY : Yv w A xs) (hA : AllA w xs l) :
    Calls Tryd.prog 54 #[.string s, .slice A xs.length c] w (PackQ w (pkR s.data.toList l)) := by
  have hsz : s.data.toList.length = s.size := rfl
  have hlen := hA.len
  have cf := fun V => aform1 s V hs
  unfold pkR
  cases hb : formB s.data.toList with
  | false =>
    rw [if_neg (by simp)]
    rw [hb] at cf
    go_enter Tryd.func54, Tryd.ntmps54
    go_wp2_with fail
    refine (cf _).mono ?_
    rintro e w1 ⟨rfl, g1⟩
    go_wp2
    go_ret2
    exact .none g1
  | true =>
    rw [hb] at cf
    have h8 := formB_len hb
    rw [hsz] at h8 ⊢
    by_cases hn : l.length = s.size
    · rw [if_pos ⟨rfl, hn⟩]
      obtain ⟨n, hnn⟩ : ∃ n, n = s.size := ⟨_, rfl⟩
      have hx : xs.length = n := by omega
      rw [hx]
      have hne : ((n : Int) != (s.size : Int)) = false := by rw [hnn]; simp
      have hn8 : n ≤ 8 := by omega
      generalize hR : pkE (pkA [] s.data.toList l) = R
      replace hR := Lib.hid hR
      replace hnn := Lib.hid hnn
      replace hn := Lib.hid hn
      replace hx := Lib.hid hx
      replace hsz := Lib.hid hsz
      replace hlen := Lib.hid hlen
      clear hb h8 hs
      go_enter Tryd.func54, Tryd.ntmps54
      go_wp2_with fail
      refine (cf _).mono ?_
      rintro e w1 ⟨rfl, g1⟩
      clear cf
      go_wp2
      go_loopw [6, 22] (fun b i wr => ∃ k A' c' L, k ≤ n ∧ i = .int .i64 ((k : Nat) : Int) ∧ b = .slice A' (L : List Int).length c' ∧ OwB wr w.heap.size A' c' L ∧ Bl w wr ∧ L.length ≤ 4096 * k ∧ Hid (pkA L (s.data.toList.drop k) (l.drop k) = pkA [] s.data.toList l)) (fun _ i _ => n - (intOf i).toNat)
      case atStart => exact ⟨0, none, 0, [], Nat.zero_le _, rfl, rfl, OwB.nil _ _, g1, Nat.le_refl _, Lib.hid rfl⟩
      case round =>
        obtain ⟨k, A', c', L, hk, rfl, rfl, own, G, hL, hp⟩ := hrel
        by_cases hlt : k < n
        · have q1 : (k : Int) < n := by omega
          have q2 : (k : Int) < (s.size : Int) := by rw [← hnn.out]; exact q1
          have q3 : k < s.size := by rw [← hnn.out]; exact hlt
          obtain ⟨b, off, u, rfl, hu, hcell⟩ := (hY.bl G).at (k := k) (by rw [hx.out]; exact hlt)
          obtain ⟨a, ha⟩ := list_at (l := l) (k := k) (by rw [hn.out, ← hnn.out]; exact hlt)
          have hIs := (hA.at hu ha).bl G
          have hc := letter_at s q3
          have hB : w.heap.size ≤ wr.heap.size := G.size
          have hstep : ∀ bs, put s[k] a = some bs → pkA (L ++ bs) (s.data.toList.drop (k + 1)) (l.drop (k + 1)) = pkA [] s.data.toList l := by
            intro bs hbs
            rw [← hp.out, drop_at hc, drop_at ha]
            simp only [pkA, hbs]
          have hstop : put s[k] a = none → pkA [] s.data.toList l = none := by
            intro hbs
            rw [← hp.out, drop_at hc, drop_at ha]
            simp only [pkA, hbs]
          cases hput : put s[k] a with
          | none =>
            have ca := fun V (g : Bl wr V) => add0 a s[k] u A' L.length c' V (hIs.bl g) hput
            have hz := hstop hput
            replace hz := Lib.hid hz
            replace hput := Lib.hid hput
            replace ha := Lib.hid ha
            replace hc := Lib.hid hc
            replace hu := Lib.hid hu
            replace ca := Lib.hid ca
            clear hstep hstop hIs
            go_wp2_with fail
            refine (ca.out _ (Bl.refl _)).mono ?_
            rintro e w2 ⟨rfl, g2⟩
            go_wp2
            go_ret2
            have e : R = ([], 1) := by rw [← hR.out, hz.out]; rfl
            rw [e]
            exact .none (G.trans g2)
          | some bs =>
            have ca := add1 a s[k] u bs A' c' L w.heap.size wr hB (by omega) own hIs hput
            have hz := hstep bs hput
            have hbl := put_len hput
            replace hz := Lib.hid hz
            replace hput := Lib.hid hput
            replace ha := Lib.hid ha
            replace hc := Lib.hid hc
            replace hu := Lib.hid hu
            replace ca := Lib.hid ca
            clear hstep hstop hIs
            go_wp2_with fail
            refine ca.out.mono ?_
            rintro e w2 ⟨A2, c2, rfl, own2, keep2⟩
            go_wp2
            go_roundw
            case rel => exact ⟨k + 1, A2, c2, L ++ bs, by omega, by go_num, by simp, own2, keep2 w (Nat.le_refl _) G, by rw [List.length_append]; omega, hz⟩
            case measure => simp [intOf]; omega
        · have q1 : ¬ (k : Int) < n := by omega
          have hkn : k = n := by omega
          have hfin : pkA [] s.data.toList l = some L := by
            rw [← hp.out, List.drop_of_length_le (by rw [hsz.out, ← hnn.out]; omega), List.drop_of_length_le (by rw [hn.out, ← hnn.out]; omega)]
            rfl
          by_cases hbig : 4096 < L.length
          · have hbig' : (4096 : Int) < L.length := by omega
            have e : R = ([], 7) := by rw [← hR.out, hfin]; exact if_pos hbig
            replace e := Lib.hid e
            clear hfin hp hkn
            go_wp2
            go_ret2
            rw [e.out]
            exact .none G
          · have hbig' : ¬ (4096 : Int) < L.length := by omega
            have e : R = (L, 0) := by rw [← hR.out, hfin]; exact if_neg hbig
            replace e := Lib.hid e
            clear hfin hp hkn
            go_wp2
            go_ret2
            rw [e.out]
            exact ⟨A', c', rfl, own.sv, G⟩
    · rw [if_neg (fun h => hn h.2)]
      have hne : ((xs.length : Int) != (s.size : Int)) = true := by simp; omega
      generalize xs.length = m at *
      clear hb hY hA
      go_enter Tryd.func54, Tryd.ntmps54
      go_wp2_with fail
      refine (cf _).mono ?_
      rintro e w1 ⟨rfl, g1⟩
      go_wp2
      go_ret2
      exact .none g1

end Go.Proofs.YthkbenhlhldglaaDoor
namespace Go.Proofs.YthkbenhlhldglaaDoor
open Go.RowKit Go.Sort

set_option maxRecDepth 100000 in
set_option maxHeartbeats 4000000 in
theorem rpack1 (s : ByteArray) (A : Option Addr) (c : Nat) (X : List (Av × Value)) (w : World) (hs : s.size ≤ 1000) (_hl : X.length ≤ 1000000) (hX : Vv w A X) :
    Calls Tryd.prog 42 #[.string s, .slice A X.length c] w (PackQ w (pkR s.data.toList (X.map Prod.fst))) := by
  have hsz : s.data.toList.length = s.size := rfl
  have cf := fun V => rform1 s V hs
  unfold pkR
  rw [List.length_map]
  cases hb : formB s.data.toList with
  | false =>
    rw [if_neg (by simp)]
    rw [hb] at cf
    go_enter Tryd.func42, Tryd.ntmps42
    go_wp2_with fail
    refine (cf _).mono ?_
    rintro e w1 ⟨rfl, g1⟩
    go_wp2
    go_ret2
    exact .none g1
  | true =>
    rw [hb] at cf
    have h8 := formB_len hb
    rw [hsz] at h8 ⊢
    by_cases hn : X.length = s.size
    · rw [if_pos ⟨rfl, hn⟩]
      obtain ⟨n, hnn⟩ : ∃ n, n = s.size := ⟨_, rfl⟩
      have hx : X.length = n := by omega
      rw [hx]
      have hne : ((s.size : Int) != (n : Int)) = false := by rw [hnn]; simp
      have hn8 : n ≤ 8 := by omega
      generalize hR : pkE (pkA [] s.data.toList (X.map Prod.fst)) = R
      replace hR := Lib.hid hR
      replace hnn := Lib.hid hnn
      replace hn := Lib.hid hn
      replace hx := Lib.hid hx
      replace hsz := Lib.hid hsz
      clear hb h8 hs
      go_enter Tryd.func42, Tryd.ntmps42
      go_wp2_with fail
      refine (cf _).mono ?_
      rintro e w1 ⟨rfl, g1⟩
      clear cf
      go_wp2
      go_loopw [7, 8] (fun b i wr => ∃ k A' c' L, k ≤ n ∧ i = .int .i64 ((k : Nat) : Int) ∧ b = .slice A' (L : List Int).length c' ∧ OwB wr w.heap.size A' c' L ∧ Bl w wr ∧ L.length ≤ 4096 * k ∧ Hid (pkA L (s.data.toList.drop k) ((X.map Prod.fst).drop k) = pkA [] s.data.toList (X.map Prod.fst))) (fun _ i _ => n - (intOf i).toNat)
      case atStart => exact ⟨0, none, 0, [], Nat.zero_le _, rfl, rfl, OwB.nil _ _, g1, Nat.le_refl _, Lib.hid rfl⟩
      case round =>
        obtain ⟨k, A', c', L, hk, rfl, rfl, own, G, hL, hp⟩ := hrel
        by_cases hlt : k < n
        · have q1 : (k : Int) < n := by omega
          have q2 : (k : Int) < (s.size : Int) := by rw [← hnn.out]; exact q1
          have q3 : k < s.size := by rw [← hnn.out]; exact hlt
          obtain ⟨b, off, p, rfl, hp8, hcells, hsv⟩ := (hX.bl G).at (k := k) (by rw [hx.out]; exact hlt)
          have ha : (X.map Prod.fst)[k]? = some p.1 := by rw [List.getElem?_map, hp8]; rfl
          have hc := letter_at s q3
          have hB : w.heap.size ≤ wr.heap.size := G.size
          have hstep : ∀ bs, put s[k] p.1 = some bs → pkA (L ++ bs) (s.data.toList.drop (k + 1)) ((X.map Prod.fst).drop (k + 1)) = pkA [] s.data.toList (X.map Prod.fst) := by
            intro bs hbs
            rw [← hp.out, drop_at hc, drop_at ha]
            simp only [pkA, hbs]
          have hstop : put s[k] p.1 = none → pkA [] s.data.toList (X.map Prod.fst) = none := by
            intro hbs
            rw [← hp.out, drop_at hc, drop_at ha]
            simp only [pkA, hbs]
          have F0 := hcells.h0
          have F1 := hcells.h1
          have F2 := hcells.h2
          have F3 := hcells.h3
          have F4 := hcells.h4
          have F5 := hcells.h5
          have F6 := hcells.h6
          have F7 := hcells.h7
          have cells : ∀ V, Bl wr V → Cells8 V b (off + k * 8) p := fun V g => hcells.bl g
          cases hput : put s[k] p.1 with
          | none =>
            have ca := fun V (g : Bl wr V) => put0 p s[k] V (hsv.bl g) hput
            have hz := hstop hput
            replace hz := Lib.hid hz
            clear hput ha hc hp8 hstep hstop hsv hcells hX
            obtain ⟨⟨pk, pn, ps, px0, py0, px1, py1, pb⟩, pv⟩ := p
            unfold g8 at ca
            dsimp only at ca F0 F1 F2 F3 F4 F5 F6 F7
            replace ca := Lib.hid ca
            have SK : ∀ V, Bl wr V → V.cell? ⟨b, off + k * 8, none⟩ = some (.int .i64 pk) ∧ V.cell? ⟨b, off + k * 8 + 1, none⟩ = some (.int .i64 pn) ∧ V.cell? ⟨b, off + k * 8 + 2, none⟩ = some (.string ps) ∧ V.cell? ⟨b, off + k * 8 + 3, none⟩ = some (.int .i64 px0) ∧ V.cell? ⟨b, off + k * 8 + 4, none⟩ = some (.int .i64 py0) ∧ V.cell? ⟨b, off + k * 8 + 5, none⟩ = some (.int .i64 px1) ∧ V.cell? ⟨b, off + k * 8 + 6, none⟩ = some (.int .i64 py1) ∧ V.cell? ⟨b, off + k * 8 + 7, none⟩ = some pv ∧ Bl wr V :=
              fun V g => ⟨g.keep F0, g.keep F1, g.keep F2, g.keep F3, g.keep F4, g.keep F5, g.keep F6, g.keep F7, g⟩
            replace SK := Lib.hid SK
            clear cells F0 F1 F2 F3 F4 F5 F6 F7
            go_wp2
            go_region_held3 (fun V => V.cell? ⟨b, off + k * 8, none⟩ = some (.int .i64 pk) ∧ V.cell? ⟨b, off + k * 8 + 1, none⟩ = some (.int .i64 pn) ∧ V.cell? ⟨b, off + k * 8 + 2, none⟩ = some (.string ps) ∧ V.cell? ⟨b, off + k * 8 + 3, none⟩ = some (.int .i64 px0) ∧ V.cell? ⟨b, off + k * 8 + 4, none⟩ = some (.int .i64 py0) ∧ V.cell? ⟨b, off + k * 8 + 5, none⟩ = some (.int .i64 px1) ∧ V.cell? ⟨b, off + k * 8 + 6, none⟩ = some (.int .i64 py1) ∧ V.cell? ⟨b, off + k * 8 + 7, none⟩ = some pv ∧ Bl wr V) ((refine SK.out _ ?_; repeat (first | with_reducible assumption | with_reducible exact Bl.refl _ | with_reducible exact (And.right (And.right (And.right (And.right (And.right (And.right (And.right (And.right (by assumption))))))))) | with_reducible exact Bl.trans (And.right (And.right (And.right (And.right (And.right (And.right (And.right (And.right (by assumption))))))))) (by assumption) | with_reducible apply Bl.drew))) ((first | (go_at_call 67; (refine (ca.out _ (And.right (And.right (And.right (And.right (And.right (And.right (And.right (And.right (by assumption)))))))))).mono ?_); rintro e V9 ⟨rfl, g9⟩; have G9 : Bl wr V9 := Bl.trans (And.right (And.right (And.right (And.right (And.right (And.right (And.right (And.right (by assumption))))))))) g9)))
            go_wp2
            go_ret2
            have e : R = ([], 1) := by rw [← hR.out, hz.out]; rfl
            rw [e]
            exact .none (G.trans G9)
          | some bs =>
            have ca := fun V (g : Bl wr V) => put1 p s[k] bs V (hsv.bl g) hput
            have hz := hstep bs hput
            have hbl := put_len hput
            replace hz := Lib.hid hz
            clear hput ha hc hp8 hstep hstop hsv hcells hX
            obtain ⟨⟨pk, pn, ps, px0, py0, px1, py1, pb⟩, pv⟩ := p
            unfold g8 at ca
            dsimp only at ca F0 F1 F2 F3 F4 F5 F6 F7
            replace ca := Lib.hid ca
            have SK : ∀ V, Bl wr V → V.cell? ⟨b, off + k * 8, none⟩ = some (.int .i64 pk) ∧ V.cell? ⟨b, off + k * 8 + 1, none⟩ = some (.int .i64 pn) ∧ V.cell? ⟨b, off + k * 8 + 2, none⟩ = some (.string ps) ∧ V.cell? ⟨b, off + k * 8 + 3, none⟩ = some (.int .i64 px0) ∧ V.cell? ⟨b, off + k * 8 + 4, none⟩ = some (.int .i64 py0) ∧ V.cell? ⟨b, off + k * 8 + 5, none⟩ = some (.int .i64 px1) ∧ V.cell? ⟨b, off + k * 8 + 6, none⟩ = some (.int .i64 py1) ∧ V.cell? ⟨b, off + k * 8 + 7, none⟩ = some pv ∧ Bl wr V :=
              fun V g => ⟨g.keep F0, g.keep F1, g.keep F2, g.keep F3, g.keep F4, g.keep F5, g.keep F6, g.keep F7, g⟩
            replace SK := Lib.hid SK
            clear cells F0 F1 F2 F3 F4 F5 F6 F7
            go_wp2
            go_region_held3 (fun V => V.cell? ⟨b, off + k * 8, none⟩ = some (.int .i64 pk) ∧ V.cell? ⟨b, off + k * 8 + 1, none⟩ = some (.int .i64 pn) ∧ V.cell? ⟨b, off + k * 8 + 2, none⟩ = some (.string ps) ∧ V.cell? ⟨b, off + k * 8 + 3, none⟩ = some (.int .i64 px0) ∧ V.cell? ⟨b, off + k * 8 + 4, none⟩ = some (.int .i64 py0) ∧ V.cell? ⟨b, off + k * 8 + 5, none⟩ = some (.int .i64 px1) ∧ V.cell? ⟨b, off + k * 8 + 6, none⟩ = some (.int .i64 py1) ∧ V.cell? ⟨b, off + k * 8 + 7, none⟩ = some pv ∧ Bl wr V) ((refine SK.out _ ?_; repeat (first | with_reducible assumption | with_reducible exact Bl.refl _ | with_reducible exact (And.right (And.right (And.right (And.right (And.right (And.right (And.right (And.right (by assumption))))))))) | with_reducible exact Bl.trans (And.right (And.right (And.right (And.right (And.right (And.right (And.right (And.right (by assumption))))))))) (by assumption) | with_reducible apply Bl.drew))) ((first | (go_at_call 67; (refine (ca.out _ (And.right (And.right (And.right (And.right (And.right (And.right (And.right (And.right (by assumption)))))))))).mono ?_); rintro e V9 ⟨A9, c9, rfl, sv9, g9⟩; have G9 : Bl wr V9 := Bl.trans (And.right (And.right (And.right (And.right (And.right (And.right (And.right (And.right (by assumption))))))))) g9)))
            have own9 := own.bl G9
            have hn9 : A9 = none → c9 = 0 := by obtain ⟨A', c', h1, h2, _⟩ := sv9; injection h1 with e1 e2 e3; subst e1 e3; exact h2
            have hr9 : RwB V9 A9 bs := by obtain ⟨A', c', h1, _, _, _, h2⟩ := sv9; injection h1 with e1 e2 e3; subst e1; exact h2
            have hB9 : w.heap.size ≤ V9.heap.size := (G.trans G9).size
            go_wp2_with (at_builtin; refine wp_app_b rfl (.tmp 41) (.tmp 42) rfl A' c' L rfl w.heap.size own9 A9 bs c9 rfl hn9 hr9 (by omega) hB9 ?_; intro A2 c2 w2 own2 by2 _)
            go_roundw
            case rel => exact ⟨k + 1, A2, c2, L ++ bs, by omega, by go_num, by simp, own2, app_bl by2 (G.trans G9) own9.lies (Nat.le_refl _), by rw [List.length_append]; omega, hz⟩
            case measure => simp [intOf]; omega
        · have q1 : ¬ (k : Int) < n := by omega
          have hkn : k = n := by omega
          have hfin : pkA [] s.data.toList (X.map Prod.fst) = some L := by
            rw [← hp.out, List.drop_of_length_le (by rw [hsz.out, ← hnn.out]; omega), List.drop_of_length_le (by rw [List.length_map, hn.out, ← hnn.out]; omega)]
            rfl
          by_cases hbig : 4096 < L.length
          · have hbig' : (4096 : Int) < L.length := by omega
            have e : R = ([], 7) := by rw [← hR.out, hfin]; exact if_pos hbig
            replace e := Lib.hid e
            clear hfin hp hkn
            go_wp2
            go_ret2
            rw [e.out]
            exact .none G
          · have hbig' : ¬ (4096 : Int) < L.length := by omega
            have e : R = (L, 0) := by rw [← hR.out, hfin]; exact if_neg hbig
            replace e := Lib.hid e
            clear hfin hp hkn
            go_wp2
            go_ret2
            rw [e.out]
            exact ⟨A', c', rfl, own.sv, G⟩
    · rw [if_neg (fun h => hn h.2)]
      have hne : ((s.size : Int) != (X.length : Int)) = true := by simp; omega
      generalize X.length = m at *
      clear hb hX
      go_enter Tryd.func42, Tryd.ntmps42
      go_wp2_with fail
      refine (cf _).mono ?_
      rintro e w1 ⟨rfl, g1⟩
      go_wp2
      go_ret2
      exact .none g1

end Go.Proofs.YthkbenhlhldglaaDoor
