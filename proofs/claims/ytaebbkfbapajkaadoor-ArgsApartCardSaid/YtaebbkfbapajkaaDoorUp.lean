/-
  What is proved: what all of the statements, Letters of the document's package, and Size of package args, hand back. No conditions but bounds.
-/
import Derived.Test.YtaebbkfbapajkaaDoorUo
namespace Go.Proofs.YtaebbkfbapajkaaDoor
open Go.RowKit Go.Sort
attribute [local go_sem ↓] run_min2 run_max2

theorem asV_iface (p : Av × Value) : ∃ t x, asV p = .iface t x := by
  unfold asV
  split
  · exact ⟨_, _, rfl⟩
  · split
    · exact ⟨_, _, rfl⟩
    · split
      · exact ⟨_, _, rfl⟩
      · split <;> exact ⟨_, _, rfl⟩
/-- A row of interface values that are these arguments. -/
def AllQ (w : World) (l : List Av) (e : Ending) (w' : World) : Prop := ∃ A' c' xs, e = .returned (.slice A' (xs : List Value).length c') ∧ Yv w' A' xs ∧ AllA w' xs l ∧ Bl w w'
set_option maxRecDepth 100000 in
set_option maxHeartbeats 4000000 in
theorem all1 (A : Option Addr) (c : Nat) (X : List (Av × Value)) (w : World) (hX : Vv w A X) (hl : X.length ≤ 1000) :
    Calls Tryd.prog 13 #[.slice A X.length c] w (AllQ w (X.map Prod.fst)) := by
  obtain ⟨Lf, hLf⟩ : ∃ l, l = X.map Prod.fst := ⟨_, rfl⟩
  rw [← hLf]
  replace hLf := Lib.hid hLf
  obtain ⟨n, hn⟩ : ∃ n, n = X.length := ⟨_, rfl⟩
  rw [← hn] at hl ⊢
  replace hn := Lib.hid hn
  go_enter Tryd.func13, Tryd.ntmps13
  go_wp2
  go_loopw [3, 4] (fun l i wr => ∃ k Al cl xs, k ≤ n ∧ i = .int .i64 ((k : Nat) : Int) ∧ l = .slice Al (xs : List Value).length cl ∧ Hid (AllA w xs ((X.map Prod.fst).take k)) ∧ OwY wr w.heap.size Al cl xs ∧ Bl w wr) (fun _ i _ => n - (intOf i).toNat)
  case atStart => exact ⟨0, none, 0, [], Nat.zero_le _, rfl, rfl, Lib.hid .nil, OwY.nil _ _, Bl.refl _⟩
  case round =>
    obtain ⟨k, Al, cl, xs, hk, rfl, rfl, hall, own, G⟩ := hrel
    have hxk : xs.length ≤ k := by rw [hall.out.len, List.length_take]; omega
    replace hxk := Lib.hid hxk
    by_cases hlt : k < n
    · have q1 : (k : Int) < n := by omega
      obtain ⟨b, off, p, rfl, hp8, hcells, hsvp⟩ := (hX.bl G).at (k := k) (by rw [← hn.out]; exact hlt)
      have hsw : Sv w p.2 p.1.b := hX.2 p (List.mem_of_getElem? hp8)
      have hnext : AllA w (xs ++ [asV p]) ((X.map Prod.fst).take (k + 1)) := by
        rw [take_snoc (show (X.map Prod.fst)[k]? = some p.1 by rw [List.getElem?_map, hp8]; rfl)]
        exact hall.out.snoc (asV_is hsw)
      have hone := (asV_is hsw).one
      obtain ⟨T, x, hTx⟩ := asV_iface p
      have ca := as1 p wr
      rw [hTx] at hnext ca hone
      clear hsvp hp8 hX hsw hTx
      obtain ⟨⟨pk, pn, ps, px0, py0, px1, py1, pb⟩, pv⟩ := p
      obtain ⟨F0, F1, F2, F3, F4, F5, F6, F7⟩ := hcells
      unfold g8 at ca
      dsimp only at *
      replace hnext := Lib.hid hnext
      replace hone := Lib.hid hone
      go_wp2_with fail
      refine ca.mono ?_
      rintro e w2 ⟨rfl, g2⟩
      have own1 := own.bl (g2.bl.alloc (.cells #[.iface T x] 20))
      have G2 := G.gr g2
      have hz3 := G2.size
      have hxl : xs.length ≤ 1000 := by have := hxk.out; omega
      go_wp2_with (at_builtin; refine wp_app_gen Tryd.underlying32 infoAny rfl (by decide) (by decide) rfl (.tmp 11) (.tmp 17) rfl Al xs.length cl xs rfl w.heap.size own1 (some ⟨w2.heap.size, 0, none⟩) 1 1 [.iface T x] rfl (by simp) (by simp) (News.at 1 (At.new _ _ _)) (by intro u hu; simp at hu; subst hu; exact hone.out) (by omega) (by simp; omega) ?_; intro A2 c2 w4 own2 by2 _; have G4 : Bl w w4 := app_bl by2 (G2.alloc _) (ow_lies own1) (Nat.le_refl _))
      go_roundw
      case rel => exact ⟨k + 1, A2, c2, xs ++ [.iface T x], by omega, by go_num, by simp, hnext, by unfold OwY; rw [List.length_append]; exact own2, G4⟩
      case measure => simp [intOf]; omega
    · have q1 : ¬ (k : Int) < n := by omega
      have hkn : k = n := by omega
      have hfin : AllA w xs Lf := by
        have q := hall.out
        rw [List.take_of_length_le (by rw [List.length_map, ← hn.out]; omega)] at q
        rw [hLf.out]; exact q
      replace hfin := Lib.hid hfin
      replace hkn := Lib.hid hkn
      clear hX
      go_wp2
      go_ret
      exact ⟨Al, cl, xs, rfl, own.yv, hfin.out.bl G, G⟩

/-- What Size tells. -/
def szR (f : List UInt8) : Int × Bool := if formB f = true then (match szA 0 f with | some n => ((n : Int), true) | none => (0, false)) else (0, false)
theorem fx_le {c : UInt8} {n : Nat} (h : fx c = some n) : n ≤ 16 := by
  unfold fx at h
  split at h
  · cases h; omega
  · split at h
    · cases h; omega
    · cases h
set_option maxRecDepth 100000 in
set_option maxHeartbeats 4000000 in
theorem size1 (s : ByteArray) (w : World) (hs : s.size ≤ 1000) :
    Calls Tryd.prog 22 #[.string s] w fun e w' => e = .returned (.tuple #[.int .i64 (szR s.data.toList).1, .bool (szR s.data.toList).2]) ∧ Bl w w' := by
  have hsz : s.data.toList.length = s.size := rfl
  have cf := fun V => aform1 s V hs
  obtain ⟨R, hR⟩ : ∃ R, R = szR s.data.toList := ⟨_, rfl⟩
  rw [← hR]
  unfold szR at hR
  cases hf : formB s.data.toList with
  | false =>
    rw [hf, if_neg (by simp)] at hR
    rw [hf] at cf
    subst hR
    go_enter Tryd.func22, Tryd.ntmps22
    go_wp2_with fail
    refine (cf _).mono ?_
    rintro e w1 ⟨rfl, g1⟩
    go_wp2
    go_ret2
    exact ⟨rfl, g1⟩
  | true =>
    rw [hf, if_pos rfl] at hR
    rw [hf] at cf
    obtain ⟨n, hnn⟩ : ∃ n, n = s.size := ⟨_, rfl⟩
    have hsn : (s.size : Int) = n := by rw [hnn]
    have hn8 : n ≤ 1000 := by omega
    replace hR := Lib.hid hR
    replace hnn := Lib.hid hnn
    replace hsz := Lib.hid hsz
    clear hf hs
    go_enter Tryd.func22, Tryd.ntmps22
    go_wp2_with fail
    refine (cf _).mono ?_
    rintro e w1 ⟨rfl, g1⟩
    clear cf
    go_wp2
    replace hsn := Lib.hid hsn
    go_loopw [4, 13] (fun m i wr => ∃ k q, k ≤ n ∧ i = .int .i64 ((k : Nat) : Int) ∧ m = .int .i64 ((q : Nat) : Int) ∧ q ≤ 16 * k ∧ Hid (szA q (s.data.toList.drop k) = szA 0 s.data.toList) ∧ Bl w wr) (fun _ i _ => n - (intOf i).toNat)
    case atStart => exact ⟨0, 0, Nat.zero_le _, rfl, rfl, Nat.zero_le _, Lib.hid rfl, g1⟩
    case round =>
      obtain ⟨k, q, hk, rfl, rfl, hq, hp, G⟩ := hrel
      by_cases hlt : k < n
      · have q1 : (k : Int) < n := by omega
        have q2 : (k : Int) < (s.size : Int) := by rw [hsn.out]; exact q1
        have q3 : k < s.size := by rw [← hnn.out]; exact hlt
        have hc := letter_at s q3
        have cx := fixed1 s[k] wr
        have hstep : ∀ m, fx s[k] = some m → szA (q + m) (s.data.toList.drop (k + 1)) = szA 0 s.data.toList := by
          intro m hm
          rw [← hp.out, drop_at hc]
          simp only [szA, hm]
        have hstop : fx s[k] = none → szA 0 s.data.toList = none := by
          intro hm
          rw [← hp.out, drop_at hc]
          simp only [szA, hm]
        cases hx : fx s[k] with
        | none =>
          rw [hx] at cx
          have hz : R = (0, false) := by rw [hR.out, hstop hx]
          replace hz := Lib.hid hz
          replace hx := Lib.hid hx
          replace hc := Lib.hid hc
          clear hstep hstop
          go_wp2_with fail
          refine cx.mono ?_
          rintro e w2 ⟨rfl, g2⟩
          go_wp2
          go_ret2
          rw [hz.out]
          exact ⟨rfl, G.gr g2⟩
        | some m =>
          rw [hx] at cx
          have hm16 := fx_le hx
          have hz := hstep m hx
          have h40 : ((q + m : Nat) : Int) = (q : Int) + m := by omega
          replace h40 := Lib.hid h40
          replace hz := Lib.hid hz
          replace hx := Lib.hid hx
          replace hc := Lib.hid hc
          clear hstep hstop
          go_wp2_with fail
          refine cx.mono ?_
          rintro e w2 ⟨rfl, g2⟩
          go_wp2
          go_roundw
          case rel => exact ⟨k + 1, q + m, by omega, by go_num, by rw [h40.out], by omega, hz, G.gr g2⟩
          case measure => simp [intOf]; omega
      · have q1 : ¬ (k : Int) < (n : Int) := by omega
        have hz : R = ((q : Int), true) := by
          have : szA 0 s.data.toList = some q := by
            rw [← hp.out, List.drop_of_length_le (by rw [hsz.out, ← hnn.out]; omega)]; rfl
          rw [hR.out, this]
        replace hz := Lib.hid hz
        go_wp2
        go_ret2
        rw [hz.out]
        exact ⟨rfl, G⟩

theorem let_ext : ∀ k : Nat, k < 5 → (⟨#[105, 117, 115, 114, 98]⟩ : ByteArray).extract k (k + 1) = ⟨#[letK k]⟩ := by
  intro k hk
  match k, hk with
  | 0, _ => rfl
  | 1, _ => rfl
  | 2, _ => rfl
  | 3, _ => rfl
  | 4, _ => rfl

end Go.Proofs.YtaebbkfbapajkaaDoor
