/-
  What is proved: what few, all of the statements, Letters and Good of the document's package, and Size of package args, hand back. No conditions but bounds.
-/
import Derived.Test.YtaebbkfbapajkaaDoorUn
import Derived.Test.YtaebbkfbapajkaaDoorOcf
namespace Go.Proofs.YtaebbkfbapajkaaDoor
open Go.RowKit Go.Sort
attribute [local go_sem ↓] run_min2 run_max2

/-- A row of arguments that was made; their bytes are the old ones. -/
def MadeQ (w : World) (l : List Av) (e : Ending) (w' : World) : Prop := ∃ A' c' X, e = .returned (.slice A' (X : List (Av × Value)).length c') ∧ X.map Prod.fst = l ∧ OwV w' w.heap.size A' c' X ∧ (∀ p ∈ X, Sv w p.2 p.1.b) ∧ Bl w w'
def fewA (a : Av) : Av := { a with s := a.s.extract 0 (min a.s.size 300), b := a.b.take 300 }
def fewL (l : List Av) : List Av := (l.take 10).map fewA
theorem take_snoc {α : Type} {l : List α} {k : Nat} {x : α} (h : l[k]? = some x) : l.take (k + 1) = l.take k ++ [x] := by
  rw [List.take_add_one, h]; rfl
theorem min_nat (n k : Nat) : min (n : Int) (k : Int) = ((min n k : Nat) : Int) := by omega

set_option maxRecDepth 100000 in
set_option maxHeartbeats 4000000 in
theorem fewV1 (A : Option Addr) (c : Nat) (X : List (Av × Value)) (w : World) (hX : Vv w A X) (hl : X.length ≤ maxLen) :
    Calls Tryd.prog 9 #[.slice A X.length c] w (MadeQ w (fewL (X.map Prod.fst))) := by
  obtain ⟨Lf, hLf⟩ : ∃ l, l = fewL (X.map Prod.fst) := ⟨_, rfl⟩
  rw [← hLf]
  unfold fewL at hLf
  replace hLf := Lib.hid hLf
  obtain ⟨n, hn⟩ : ∃ n, n = X.length := ⟨_, rfl⟩
  have hnm : (n : Int) ≤ 9223372036854775807 := by unfold maxLen at hl; omega
  rw [← hn]
  replace hn := Lib.hid hn
  clear hl
  go_enter Tryd.func9, Tryd.ntmps9
  go_wp2
  go_loopw [3, 4] (fun l i wr => ∃ k Al cl Y, k ≤ n ∧ k ≤ 10 ∧ i = .int .i64 ((k : Nat) : Int) ∧ l = .slice Al (Y : List (Av × Value)).length cl ∧ Hid (Y.map Prod.fst = ((X.map Prod.fst).take k).map fewA) ∧ Y.length = k ∧ OwV wr w.heap.size Al cl Y ∧ Hid (∀ p ∈ Y, Sv w p.2 p.1.b) ∧ Bl w wr) (fun _ i _ => 10 - (intOf i).toNat)
  case atStart => exact ⟨0, none, 0, [], Nat.zero_le _, Nat.zero_le _, rfl, rfl, Lib.hid rfl, rfl, OwV.nil _ _, Lib.hid (fun p hp => by simp at hp), Bl.refl _⟩
  case round =>
    obtain ⟨k, Al, cl, Y, hk, hk10, rfl, rfl, hY, hYl, own, hsv, G⟩ := hrel
    by_cases hlt : k < n ∧ k < 10
    · obtain ⟨hlt, hlt2⟩ := hlt
      have q1 : (k : Int) < n := by omega
      have q2 : (k : Int) < 10 := by omega
      obtain ⟨b, off, p, rfl, hp8, hcells, hsvp⟩ := (hX.bl G).at (k := k) (by rw [← hn.out]; exact hlt)
      have hsw : Sv w p.2 p.1.b := hX.2 p (List.mem_of_getElem? hp8)
      have hnext : (Y.map Prod.fst) ++ [fewA p.1] = ((X.map Prod.fst).take (k + 1)).map fewA := by
        rw [take_snoc (show (X.map Prod.fst)[k]? = some p.1 by rw [List.getElem?_map, hp8]; rfl), List.map_append, ← hY.out]; rfl
      clear hsvp hp8 hX
      obtain ⟨⟨pk, pn, ps, px0, py0, px1, py1, pb⟩, pv⟩ := p
      obtain ⟨F0, F1, F2, F3, F4, F5, F6, F7⟩ := hcells
      dsimp only at *
      obtain ⟨Ab, cb, rfl, hAb, hlb, hcb, hrow⟩ := hsw
      have hcb2 : (cb : Int) ≤ 9223372036854775807 := by unfold maxLen at hcb; omega
      unfold fewA at hnext
      dsimp only at hnext
      have hm1 : min (ps.size : Int) 300 = ((min ps.size 300 : Nat) : Int) := by omega
      have hm2 : min (pb.length : Int) 300 = ((min pb.length 300 : Nat) : Int) := by omega
      have ht : (pb.take 300).length = min pb.length 300 := by rw [List.length_take, Nat.min_comm]
      have hsv2 : Sv w (.slice Ab (min pb.length 300) cb) (pb.take 300) := ⟨Ab, cb, by rw [ht], hAb, by rw [ht]; omega, hcb, by
        rcases hrow with h | ⟨b', off', h1, h2⟩
        · left; rw [h]; simp
        · exact .inr ⟨b', off', h1, h2.take 300⟩⟩
      have hM1 : min ps.size 300 ≤ ps.size := Nat.min_le_left _ _
      have hM2 : min pb.length 300 ≤ cb := by omega
      clear ht hrow hlb
      generalize pb.take 300 = pb' at *
      generalize min ps.size 300 = M1 at *
      generalize min pb.length 300 = M2 at *
      generalize pb.length = pbn at *
      have hM1' : (M1 : Int) ≤ ps.size := by omega
      have hM2' : (M2 : Int) ≤ cb := by omega
      replace hnext := Lib.hid hnext
      replace hsv2 := Lib.hid hsv2
      replace hYl := Lib.hid hYl
      have hYk : Y.length ≤ 10 := by rw [hYl.out]; exact hk10
      have own1 := own.bl (((Bl.refl wr).alloc (.cells (c8 (⟨pk, pn, ps.extract 0 M1, px0, py0, px1, py1, pb'⟩, .slice Ab M2 cb)).toArray 47)).alloc (.cells (c8 (⟨pk, pn, ps.extract 0 M1, px0, py0, px1, py1, pb'⟩, .slice Ab M2 cb)).toArray 47))
      have hz3 := G.size
      go_wp2_with (at_builtin; refine wp_app_gen Tryd.underlying22 infoV rfl (by decide) (by decide) rfl (.tmp 36) (.tmp 38) rfl Al Y.length cl (cV Y) rfl w.heap.size own1 (some ⟨wr.heap.size + 1, 0, none⟩) 1 1 (c8 (⟨pk, pn, ps.extract 0 M1, px0, py0, px1, py1, pb'⟩, .slice Ab M2 cb)) rfl (by simp) (by rw [c8_len]) (News.at 1 (At.newAt (by simp) _ _)) (c8_one ⟨_, _, _, rfl⟩) (by omega) (by simp; omega) ?_; intro A2 c2 w4 own2 by2 _; have G4 : Bl w w4 := app_bl by2 ((G.alloc _).alloc _) (ow_lies own1) (Nat.le_refl _))
      go_roundw
      case rel => exact ⟨k + 1, A2, c2, Y ++ [(⟨pk, pn, ps.extract 0 M1, px0, py0, px1, py1, pb'⟩, .slice Ab M2 cb)], by omega, by omega, by go_num, by simp, by rw [List.map_append]; exact hnext, by simp [hYl.out], own_snoc own2, Lib.hid (fun p hp => by
        rcases List.mem_append.1 hp with hp | hp
        · exact hsv.out p hp
        · simp at hp; subst hp; exact hsv2.out), G4⟩
      case measure => simp [intOf]; omega
    · replace hYl := Lib.hid hYl
      have hfin : Y.map Prod.fst = Lf := by
        rw [hY.out, hLf.out]
        congr 1
        rcases Nat.lt_or_ge k 10 with h | h
        · have hkn : k = n := by omega
          rw [List.take_of_length_le (by rw [List.length_map, ← hn.out]; omega), List.take_of_length_le (by rw [List.length_map, ← hn.out]; omega)]
        · rw [show k = 10 from by omega]
      replace hfin := Lib.hid hfin
      by_cases hkn : k < n
      · have q1 : (k : Int) < n := by omega
        have q2 : ¬ (k : Int) < 10 := by omega
        clear hX hlt
        go_wp2
        go_ret
        exact ⟨Al, cl, Y, rfl, hfin.out, own, hsv.out, G⟩
      · have q1 : ¬ (k : Int) < n := by omega
        clear hX hlt
        go_wp2
        go_ret
        exact ⟨Al, cl, Y, rfl, hfin.out, own, hsv.out, G⟩

end Go.Proofs.YtaebbkfbapajkaaDoor
