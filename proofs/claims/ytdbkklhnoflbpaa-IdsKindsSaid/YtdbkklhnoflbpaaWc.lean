/-
  What is proved: rows of ints; what ids' Of hands back, and what the statements' own example comes to. Conditions: the table's ids rise and may be.
-/
import Derived.Test.YtdbkklhnoflbpaaWb
import Derived.Test.YtdbkklhnoflbpaaShc
import Derived.Lib.OwnBridge
namespace Go.Proofs.Ytdbkklhnoflbpaa
open Go.ChangeShapes Go.WideShapes Go.ChangeAt Go.RowKit Go.Joins Go.Sort Go.Deep Go.Maps

def shI : Shp Int := ⟨1, fun x => [.int .i64 x], fun _ => rfl, fun x u h => by simp at h; subst h; rfl, by omega⟩
theorem shI_cs (l : List Int) : shI.cs l = l.map (Value.int .i64) := by
  induction l with
  | nil => rfl
  | cons x l ih => rw [Shp.cs_cons, ih]; rfl
theorem infoInt : (Try.prog.info? 3).map (fun i => (i.zero, i.size, i.bytes)) = some (some (.int .i64 0), shI.n, 8) := by kernel_rfl
abbrev OwInt := shI.Ow 3
theorem int_at {w : World} {b off : Nat} {l : List Int} (h : shI.Row w b off l) {k : Nat} {x : Int} (hx : l[k]? = some x) : w.cell? ⟨b, off + k, none⟩ = some (.int .i64 x) := by
  have := h k x hx 0 (.int .i64 x) rfl
  simpa [shI] using this
def sortI (zs : List Int) : List Int := zs.mergeSort fun x y => decide (x ≤ y)
theorem sortI_len (zs : List Int) : (sortI zs).length = zs.length := List.length_mergeSort _
theorem isort1 (A : Option Addr) (c : Nat) (E : List Int) (w : World) (B : Nat) (h : OwInt w B A c E) (hl : E.length ≤ 100000000) (hB : B ≤ w.heap.size) :
    Calls Try.prog 24 #[.slice A E.length c] w fun e w' => e = .returned (.tuple #[]) ∧ OwInt w' B A c (sortI E) ∧ Below B w w' := by
  by_cases h0 : E.length = 0
  · have : E = [] := List.eq_nil_of_length_eq_zero h0
    subst this
    refine (sh_slices_Sort_int_none A c w).mono ?_
    rintro e w' ⟨rfl, rfl⟩
    exact ⟨rfl, by rw [show sortI [] = [] from by simp [sortI]]; exact h, Below.refl _ _⟩
  · have h' : w.ownsRow B 3 1 (.slice A E.length c) E.length (E.map (Value.int .i64)) := by have := h; unfold OwInt Shp.Ow at this; rw [shI_cs] at this; exact this
    obtain ⟨g, cap, h1, h2, h3, h4, h5, h6, h7⟩ := Lib.holds_of_ownsRow (enc := Value.int .i64) (zs := E) h' (by intro h; injection h with h h'; omega)
    injection h1 with h1 h1' h1''
    subst h1 h1''
    refine (sh_slices_Sort_int g 0 c E w h7 h3 (by omega)).mono ?_
    rintro e w' ⟨rfl, n, os, rfl⟩
    have q := Lib.ownsRow_putRow (enc := Value.int .i64) (q := n) (k := E.length) (ys := sortI E) h' (sortI_len E) (Nat.le_refl _)
    have q1 : OwInt (putRow (Value.int .i64) (Sort.ahead w n) g 0 (sortI E).toArray) B (some ⟨g, 0, none⟩) c (sortI E) := by
      unfold OwInt Shp.Ow
      rw [sortI_len, shI_cs]
      rw [List.take_of_length_le (by rw [sortI_len]; exact Nat.le_refl _)] at q
      exact q
    exact ⟨rfl, q1.bl ((Bl.refl _).grow os), Below.trans (Lib.below_putRow (Below.refl _ _) h2) (Below.mono ((Bl.refl _).grow os) (by simp [putRow, mapBlock, Sort.ahead]; omega))⟩

set_option maxRecDepth 100000 in
theorem idOf1 {w : World} {a b : Nat} {m : Int} {L : List Ik} (h : Tb w a b m L) (k : Int) : Calls Try.prog 19 #[.pointer (some ⟨a, 0, none⟩), .int .i64 k] w fun e w' =>
    ∃ A c, e = .returned (.slice A (ofL L k).length c) ∧ OwInt w' w.heap.size A c (ofL L k) ∧ Bl w w' := by
  have c1 := h.hd.cell 1
  have hown := h.mp
  unfold Mp at hown
  have hbl := h.mp.lt
  have hal := h.hd.lt
  have hlen := h.ok.len
  have hasc := h.ok.asc
  have hsz := size_dmap L
  have hol := ofL_len L k
  obtain ⟨r, hr⟩ : ∃ r, r = w.heap.size := ⟨_, rfl⟩
  go_enter Try.func19, Try.ntmps19
  go_wp2_with (at_range; refine wpList_range_own _ rfl _ 52 rfl 3 3 keyInt Try.underlying52 _ b _ _ rfl hown ?_; intro w0 hrg0 hg0 hs0)
  rw [← hr] at hrg0
  replace hr := Lib.hid hr
  replace hs0 := Lib.hid hs0
  go_frame
  go_loopw [5] (fun v wr => ∃ (left : Lit → Bool) (cnt : Nat) (A : Option Addr) (c : Nat) (ks : List Int), wr.ranges Try.prog 3 (plainElem Try.prog 3) b r L.length (dmap L) left cnt ∧ v = .slice A ks.length c ∧ OwInt wr (r + 1) A c ks ∧ Col L k left ks ∧ ks.length + cnt ≤ L.length ∧ Bl w wr ∧ r + 1 ≤ wr.heap.size)
    (fun _ wr => wr.rangeLeft b r)
  case atStart => exact ⟨_, _, none, 0, [], by rw [hr.out]; rw [hr.out] at hrg0; exact hrg0, rfl, Shp.Ow.nil _ _, Col.start L k, by simp [hsz], By.none hg0, by rw [hs0.out, hr.out]; exact Nat.le_refl _⟩
  case round =>
    obtain ⟨left, cnt, A, c, ks, hrg, rfl, own, hC, hcs, G, hrs⟩ := hrel
    go_wp2_with (at_next; refine wpList_next_ranges_ii _ rfl _ rfl 3 3 .i64 .i64 keyInt Try.underlying3 Try.underlying3 b r _ _ _ _ (by have := hr.out; subst this; rfl) hrg ?_ ?_)
    · intro hc0 hl0
      have hsorted : sortI ks = ofL L k := hC.sorted hl0 hasc
      have hln : ks.length = (ofL L k).length := by rw [← hsorted, sortI_len]
      have cs := isort1 A c ks wr (r + 1) own (by omega) hrs
      rw [hsorted] at cs
      replace hsorted := Lib.hid hsorted
      replace hln := Lib.hid hln
      have hro := Lib.hid hr.out
      clear hlen hcs
      go_wp2_with (go_at_call 24; refine cs.mono ?_; rintro e w3 ⟨rfl, own3, g3⟩)
      go_ret
      rw [hln.out]
      exact ⟨A, c, rfl, own3.low (by rw [hro.out]; omega), RowKit.Below.trans G (RowKit.Below.mono g3 (by rw [hro.out]; omega))⟩
    · intro x c' w2 cnt2 hwx hwc hlx hat hrg2 hlt hg2 hs2 hen
      have hrl := hr.out
      have own2 := own.by hg2 (by rcases own.lies with h | ⟨g, rfl, h1, _⟩; exact .inl h; exact .inr (by simp; omega))
      have G2 : Bl w w2 := G.grown hg2 (fun j hj => by cases hj; rw [hrl]; exact Nat.le_refl _)
      have hrs2 : r + 1 ≤ w2.heap.size := Nat.le_trans hrs hg2.size
      clear hs2
      rw [hrl] at hen
      replace hrl := Lib.hid hrl
      by_cases hk : c' = k
      · subst hk
        replace hlen := Lib.hid hlen
        replace hcs := Lib.hid hcs
        go_wp2_with (at_builtin; refine Shp.wp_app (S := shI) Try.underlying42 infoInt rfl (by decide) rfl (.tmp 21) (.tmp 23) rfl A c ks rfl (r + 1) (own2.bl ((Bl.refl _).alloc _)) (some ⟨w2.heap.size, 0, none⟩) 1 [x] rfl (by simp) (Shp.Rd.new1 (At.new _ _ _) rfl) (by have := hlen.out; have := hcs.out; simp; omega) (by simp; omega) ?_; intro A3 c3 w3 own3 ap3 lies3)
        have hne3 : ∀ j, A.map (·.block) = some j → r + 1 ≤ j := by
          intro j hj
          rcases own2.lies with h | ⟨g, rfl, h1, _⟩
          · subst h; cases hj
          · cases hj; exact h1
        have hbw := hbl
        go_roundw
        case rel =>
          refine ⟨_, cnt2, A3, c3, ks ++ [x], (hrg2.alloc _).kept ap3 (fun e => ?_) (fun e => ?_), by simp, own3, hC.step hlx hat hasc, by have := hcs.out; simp; omega, (G2.alloc _).grown ap3 (fun j hj => ?_), ?_⟩
          · have := hne3 b e.symm; rw [hrl.out] at this; omega
          · have := hne3 r e.symm; omega
          · have := hne3 j hj; rw [hrl.out] at this; omega
          · have := ap3.size; simp at this; omega
        case measure => rw [World.ranges.left_eq ((hrg2.alloc _).kept ap3 (fun e => by have := hne3 b e.symm; rw [hrl.out] at this; omega) (fun e => by have := hne3 r e.symm; omega)), hrg.left_eq]; exact hlt
      · have hke : (c' == k) = false := by simpa using hk
        have hC2 := hC.skip hat hasc hk
        replace hk := Lib.hid hk
        go_wp2
        go_roundw
        case rel => exact ⟨_, cnt2, A, c, ks, hrg2, rfl, own2, hC2, by omega, G2, hrs2⟩
        case measure => rw [hrg2.left_eq, hrg.left_eq]; exact hlt

end Go.Proofs.Ytdbkklhnoflbpaa
