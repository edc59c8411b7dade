/-
  What is proved: what Set, Fill, Copy and Write do, of package image and of the document's images, in one form: a list of colors and a number. Conditions: sides of an image; colors are of 32 bits, bytes are bytes.
-/
import Derived.Test.YtackojmckloacaaJz
import Derived.Test.YtackojmckloacaaIk
import Derived.Test.YtackojmckloacaaIl
namespace Go.Proofs.Ytackojmckloacaa
open Go.RowKit Go.Sort Go.Deep

/-- What a step of the program does: it hands v back, and the image has the colors L'. -/
def DoM (w : World) (pm pc W H : Nat) (L' : List Int) (v : Int) (e : Ending) (w' : World) : Prop := e = .returned (.int .i64 v) ∧ w.grownBy w' (some pc) ∧ Img w' pm pc W H L'
/-- What a step of the document does. -/
def DoR (w : World) (b W H n : Nat) (L' : List Int) (v : Int) (e : Ending) (w' : World) : Prop := ∃ b' c', e = .returned (.tuple #[.agg #[.int .i64 W, .int .i64 H, .slice (some ⟨b', 0, none⟩) n c'], .int .i64 v]) ∧ RowN .u32 w' b' 0 L' ∧ (b' = b ∨ w.heap.size ≤ b') ∧ Bl w w'
theorem DoM.rt {w : World} {pm pc W H : Nat} {L : List Int} {v : Int} (hI : Img w pm pc W H L) {f : Nat} {a : Array Value} (h : Calls Try.prog f a w (Rt w (.int .i64 v))) : Calls Try.prog f a w (DoM w pm pc W H L v) :=
  h.mono fun _ _ h => ⟨h.1, h.2.by _, hI.gr h.2⟩
theorem DoR.rt {w : World} {W H b c n : Nat} {L : List Int} {v : Int} (hR : RowN .u32 w b 0 L) {f : Nat} {a : Array Value} (h : Calls Try.prog f a w (Rt w (.tuple #[.agg #[.int .i64 W, .int .i64 H, .slice (some ⟨b, 0, none⟩) n c], .int .i64 v]))) : Calls Try.prog f a w (DoR w b W H n L v) :=
  h.mono fun _ _ h => ⟨b, c, h.1, hR.gr h.2, .inl rfl, h.2.bl⟩

set_option maxRecDepth 100000 in
set_option maxHeartbeats 2000000 in
theorem rset0 {W H b c n : Nat} (w : World) (x y q : Int) (h : hasB 0 0 W H x y = false) :
    Calls Try.prog 6 #[.agg #[.int .i64 W, .int .i64 H, .slice (some ⟨b, 0, none⟩) n c], .int .i64 x, .int .i64 y, .int .u32 q] w (Rt w (.tuple #[.agg #[.int .i64 W, .int .i64 H, .slice (some ⟨b, 0, none⟩) n c], .int .i64 4])) := by
  have cA := fun w' : World => refAt0 (c := c) (n := n) (A := some ⟨b, 0, none⟩) w' x y h
  have G0 := ((Gr.refl w).alloc (.cells #[.int .i64 W, .int .i64 H, .slice (some ⟨b, 0, none⟩) n c] 25)).alloc (.cells #[.int .i64 0, .int .i64 0, .slice none 0 0] 25)
  have B0 := (At.new w #[.int .i64 W, .int .i64 H, .slice (some ⟨b, 0, none⟩) n c] 25).alloc (.cells #[.int .i64 0, .int .i64 0, .slice none 0 0] 25)
  have R0 := At.newAt (w := w.alloc (.cells #[.int .i64 W, .int .i64 H, .slice (some ⟨b, 0, none⟩) n c] 25)) (n := w.heap.size + 1) (by simp) #[.int .i64 0, .int .i64 0, .slice none 0 0] 25
  clear h
  go_enter Try.func6, Try.ntmps6
  go_wp2_with fail
  refine (cA _).mono ?_
  rintro e v1 ⟨rfl, g1⟩
  replace B0 := B0.gr g1
  replace R0 := R0.gr g1
  replace G0 := G0.trans g1
  clear g1
  obtain ⟨m0, m1, m2⟩ := cells3 B0
  obtain ⟨z0, z1, z2⟩ := cells3 R0
  have z3 := R0.free 0
  have z4 := R0.free 1
  have z5 := R0.free 2
  go_wp2
  have P := R0.put3 (.int .i64 W) (.int .i64 H) (.slice (some ⟨b, 0, none⟩) n c)
  have G := G0.put3 (k := w.heap.size + 1) (by omega) (.int .i64 W) (.int .i64 H) (.slice (some ⟨b, 0, none⟩) n c)
  generalize ((v1.setCell ⟨w.heap.size + 1, 0, none⟩ (.int .i64 W)).setCell ⟨w.heap.size + 1, 1, none⟩ (.int .i64 H)).setCell ⟨w.heap.size + 1, 2, none⟩ (.slice (some ⟨b, 0, none⟩) n c) = V at P G ⊢
  obtain ⟨d0, d1, d2⟩ := cells3 P
  exact bodyPost_ret (v := .tuple #[.agg #[.int .i64 W, .int .i64 H, .slice (some ⟨b, 0, none⟩) n c], .int .i64 4]) (by simp [results, Try.results6, go_sem, d0, d1, d2]) rfl ⟨rfl, G⟩

/-- Set: the list and the error. -/
def stL (W H : Nat) (L : List Int) (x y q : Int) : List Int := if hasB 0 0 W H x y = true then setL L (y.toNat * W + x.toNat) q else L
def stE (W H : Nat) (x y q : Int) : Int := if hasB 0 0 W H x y = true then setE q else 4
theorem psetS {pm pc W H : Nat} {L : List Int} (w : World) (hI : Img w pm pc W H L) (x y q : Int) (hq : C32 q) :
    Calls Try.prog 7 #[.pointer (some ⟨pm, 0, none⟩), .int .i64 x, .int .i64 y, .int .u32 q] w (DoM w pm pc W H (stL W H L x y q) (stE W H x y q)) := by
  unfold stL stE
  cases h : hasB 0 0 W H x y
  · rw [if_neg (by simp), if_neg (by simp)]
    exact DoM.rt hI (setR w hI x y q h)
  · rw [if_pos rfl, if_pos rfl]
    unfold setL setE
    cases hm : mayC q
    · rw [if_neg (by simp), if_neg (by simp)]
      exact DoM.rt hI (setA w hI x y q hq h hm)
    · rw [if_pos rfl, if_pos rfl]
      simp [hasB] at h
      obtain ⟨i, hi⟩ : ∃ i : Nat, x = (i : Int) := ⟨x.toNat, by omega⟩
      obtain ⟨j, hj⟩ : ∃ j : Nat, y = (j : Int) := ⟨y.toNat, by omega⟩
      subst hi hj
      rw [Int.toNat_natCast, Int.toNat_natCast]
      exact set1 w hI i j (by omega) (by omega) q hq hm
theorem rsetS {W H b c : Nat} {L : List Int} (w : World) (hR : RowN .u32 w b 0 L) (hl : L.length = W * H) (w1 : 1 ≤ W) (w2 : W ≤ 256) (h2 : H ≤ 256) (x y q : Int) (hq : C32 q) :
    Calls Try.prog 6 #[.agg #[.int .i64 W, .int .i64 H, .slice (some ⟨b, 0, none⟩) L.length c], .int .i64 x, .int .i64 y, .int .u32 q] w (DoR w b W H L.length (stL W H L x y q) (stE W H x y q)) := by
  unfold stL stE
  cases h : hasB 0 0 W H x y
  · rw [if_neg (by simp), if_neg (by simp)]
    exact DoR.rt hR (rset0 w x y q h)
  · rw [if_pos rfl, if_pos rfl]
    simp [hasB] at h
    obtain ⟨i, hi⟩ : ∃ i : Nat, x = (i : Int) := ⟨x.toNat, by omega⟩
    obtain ⟨j, hj⟩ : ∃ j : Nat, y = (j : Int) := ⟨y.toNat, by omega⟩
    subst hi hj
    rw [Int.toNat_natCast, Int.toNat_natCast]
    exact (rset1 w hR hl w1 w2 h2 i j (by omega) (by omega) q hq).mono fun _ _ ⟨b', c', h1, h2, h3, h4⟩ => ⟨b', c', h1, h2, h3, h4⟩
theorem stL_len (W H : Nat) (L : List Int) (x y q : Int) : (stL W H L x y q).length = L.length := by
  unfold stL setL
  split
  · split
    · rw [List.length_set]
    · rfl
  · rfl

/-- Fill: the list and the number. -/
def flL (W : Nat) (L : List Int) (p r s t q : Int) : List Int := if mayC q = true then upto (fun i => if hasB p r s t (i % W : Nat) (i / W : Nat) = true then q else L.getD i 0) L.length else L
def flN (W H : Nat) (p r s t q : Int) : Int := if mayC q = true then ((cntI (fun i => hasB p r s t (i % W : Nat) (i / W : Nat)) (W * H) : Nat) : Int) else 0
theorem flL_len (W : Nat) (L : List Int) (p r s t q : Int) : (flL W L p r s t q).length = L.length := by
  unfold flL
  split
  · rw [upto_len]
  · rfl
theorem pfillS {pm pc W H : Nat} {L : List Int} (w : World) (hI : Img w pm pc W H L) (p r s t q : Int) (hq : C32 q) :
    Calls Try.prog 9 #[.pointer (some ⟨pm, 0, none⟩), .agg #[.int .i64 p, .int .i64 r, .int .i64 s, .int .i64 t], .int .u32 q] w (DoM w pm pc W H (flL W L p r s t q) (flN W H p r s t q)) := by
  unfold flL flN
  cases hm : mayC q
  · rw [if_neg (by simp), if_neg (by simp)]
    exact DoM.rt hI (fill0 pm w p r s t q hq hm)
  · rw [if_pos rfl, if_pos rfl]
    obtain ⟨x0, y0, x1, y1, hc, hx0, hx, hw, hy, hh, hp⟩ := cut_nat p r s t W H
    refine (fill1 w hI p r s t q hq hm x0 x1 y0 y1 hc hx0 hx hw hy hh).mono ?_
    rintro e w' ⟨rfl, g, I⟩
    rw [fill_eq (p := fun i j : Nat => hasB p r s t i j) hI.len hI.w1 hx0 hw hy hp] at I
    exact ⟨by rw [cnt_area (p := fun i j : Nat => hasB p r s t i j) hI.w1 hx0 hw hy hh hp], g, I⟩
theorem rfillS {W H b c : Nat} {L : List Int} (w : World) (hR : RowN .u32 w b 0 L) (hl : L.length = W * H) (w1 : 1 ≤ W) (w2 : W ≤ 256) (h1 : 1 ≤ H) (h2 : H ≤ 256) (p r s t q : Int) (hq : C32 q) :
    Calls Try.prog 8 #[.agg #[.int .i64 W, .int .i64 H, .slice (some ⟨b, 0, none⟩) L.length c], .agg #[.int .i64 p, .int .i64 r, .int .i64 s, .int .i64 t], .int .u32 q] w (DoR w b W H L.length (flL W L p r s t q) (flN W H p r s t q)) := by
  unfold flL flN
  cases hm : mayC q
  · rw [if_neg (by simp), if_neg (by simp)]
    exact DoR.rt hR (refFill0 w p r s t q hq hm)
  · rw [if_pos rfl, if_pos rfl, ← hl]
    exact (refFill1 w hR hl w1 w2 h1 h2 p r s t q hq hm).mono fun _ _ ⟨b', c', h1, h2, h3, h4⟩ => ⟨b', c', h1, h2, .inr h3, h4⟩
theorem cpL_len (W W2 H2 : Nat) (a b c d dx dy : Int) (L L2 : List Int) : (cpL W W2 H2 a b c d dx dy L L2).length = L.length := by unfold cpL; rw [upto_len]

theorem rcopyS {W H b c W2 H2 b2 c2 : Nat} {L L2 : List Int} (w : World) (hR : RowN .u32 w b 0 L) (hR2 : RowN .u32 w b2 0 L2) (hl : L.length = W * H) (hl2 : L2.length = W2 * H2) (w1 : 1 ≤ W) (w2 : W ≤ 256) (h1 : 1 ≤ H) (h2 : H ≤ 256) (w22 : W2 ≤ 256) (h22 : H2 ≤ 256) (p r s t dx dy : Int) :
    Calls Try.prog 10 #[.agg #[.int .i64 W, .int .i64 H, .slice (some ⟨b, 0, none⟩) L.length c], .agg #[.int .i64 W2, .int .i64 H2, .slice (some ⟨b2, 0, none⟩) L2.length c2], .agg #[.int .i64 p, .int .i64 r, .int .i64 s, .int .i64 t], .int .i64 dx, .int .i64 dy] w (DoR w b W H L.length (cpL W W2 H2 p r s t dx dy L L2) (cpN W H W2 H2 p r s t dx dy)) :=
  (refCopy1 w hR hR2 hl hl2 w1 w2 h1 h2 w22 h22 p r s t dx dy).mono fun _ _ ⟨b', c', h1, h2, h3, h4⟩ => ⟨b', c', h1, h2, .inr h3, h4⟩

/-- Write: the list and the error. -/
def okL (bs : List Int) (N : Nat) : Bool := (List.range N).all fun j => mayC (colAt bs j)
def fitB (W H : Nat) (p r s t : Int) : Bool := !emptyB p r s t && coversB 0 0 W H p r s t
def wtL (W H : Nat) (L : List Int) (p r s t : Int) (bs : List Int) : List Int :=
  if fitB W H p r s t = true ∧ (bs.length : Int) = 4 * areaI p r s t ∧ okL bs (areaI p r s t).toNat = true then wrL W p.toNat r.toNat (s - p).toNat L bs (areaI p r s t).toNat else L
def wtE (W H : Nat) (p r s t : Int) (bs : List Int) : Int :=
  if fitB W H p r s t = false then 4 else if (bs.length : Int) < 4 * areaI p r s t then 3 else if 4 * areaI p r s t < (bs.length : Int) then 2 else if okL bs (areaI p r s t).toNat = true then 0 else 1
theorem wtL_len (W H : Nat) (L : List Int) (p r s t : Int) (bs : List Int) : (wtL W H L p r s t bs).length = L.length := by
  unfold wtL
  split
  · rw [wrL_len]
  · rfl
theorem okL_iff (bs : List Int) (N : Nat) : okL bs N = true ↔ ∀ j, j < N → mayC (colAt bs j) = true := by
  unfold okL; rw [List.all_eq_true]
  exact ⟨fun h j hj => h j (List.mem_range.2 hj), fun h j hj => h j (List.mem_range.1 hj)⟩
theorem okL_bad (bs : List Int) : ∀ N, okL bs N = false → ∃ K, K < N ∧ (∀ j, j < K → mayC (colAt bs j) = true) ∧ mayC (colAt bs K) = false
  | 0, h => by simp [okL] at h
  | N + 1, h => by
    cases hN : okL bs N
    · obtain ⟨K, h1, h2, h3⟩ := okL_bad bs N hN
      exact ⟨K, by omega, h2, h3⟩
    · have h4 := (okL_iff bs N).1 hN
      refine ⟨N, by omega, h4, ?_⟩
      cases hm : mayC (colAt bs N)
      · rfl
      · exfalso
        have : okL bs (N + 1) = true := (okL_iff bs (N + 1)).2 fun j hj => by
          by_cases h5 : j < N
          · exact h4 j h5
          · rw [show j = N by omega]; exact hm
        rw [this] at h; cases h

theorem in_nat {W H : Nat} {p r s t : Int} (h : fitB W H p r s t = true) (w2 : W ≤ 256) (h2 : H ≤ 256) : ∃ x0 y0 x1 y1 : Nat, p = (x0 : Int) ∧ r = (y0 : Int) ∧ s = (x1 : Int) ∧ t = (y1 : Int) ∧ x0 < x1 ∧ x1 ≤ W ∧ y0 < y1 ∧ y1 ≤ H ∧ areaI p r s t = (((x1 - x0) * (y1 - y0) : Nat) : Int) ∧ (s - p).toNat = x1 - x0 := by
  obtain ⟨_, q1, q2, q3, q4, q5, q6⟩ := may_in h w2 h2
  refine ⟨p.toNat, r.toNat, s.toNat, t.toNat, by omega, by omega, by omega, by omega, by omega, by omega, by omega, by omega, ?_, by omega⟩
  unfold areaI
  rw [Int.natCast_mul, show ((s.toNat - p.toNat : Nat) : Int) = s - p by omega, show ((t.toNat - r.toNat : Nat) : Int) = t - r by omega]

set_option maxHeartbeats 2000000 in
theorem writeLL {pm pc W H : Nat} {L : List Int} (w : World) (hI : Img w pm pc W H L) (a b c d : Int) (A : Option Addr) (n cb : Nat) (h : (!emptyB a b c d && coversB 0 0 W H a b c d) = true) (v : Int)
    (hv : ((n : Int) < 4 * areaI a b c d ∧ v = 3) ∨ (4 * areaI a b c d < (n : Int) ∧ v = 2)) :
    Calls Try.prog 13 #[.pointer (some ⟨pm, 0, none⟩), .agg #[.int .i64 a, .int .i64 b, .int .i64 c, .int .i64 d], .slice A n cb] w (Rt w (.int .i64 v)) := by
  obtain ⟨hmay, hb⟩ := may_in h hI.w2 hI.h2
  have hbd := area_bd hmay
  have R0 := (At.new w #[.int .i64 a, .int .i64 b, .int .i64 c, .int .i64 d] 32).alloc (.cells #[.slice A n cb] 33)
  have S0 := At.newAt (w := w.alloc (.cells #[.int .i64 a, .int .i64 b, .int .i64 c, .int .i64 d] 32)) (n := w.heap.size + 1) (by simp) #[.slice A n cb] 33
  have G0 := ((Gr.refl w).alloc (.cells #[.int .i64 a, .int .i64 b, .int .i64 c, .int .i64 d] 32)).alloc (.cells #[.slice A n cb] 33)
  have ca := hasAll1 _ (hI.gr G0) a b c d
  rw [h] at ca
  have cr := fun w => area1 a b c d w hmay
  change 0 ≤ areaI a b c d ∧ areaI a b c d ≤ 4398046511104 at hbd
  obtain ⟨hbd1, hbd2⟩ := hbd
  clear h hI hb hmay
  generalize areaI a b c d = ar at *
  rcases hv with ⟨hv, rfl⟩ | ⟨hv, rfl⟩
  all_goals
    go_enter Try.func13, Try.ntmps13
    go_wp2_with fail
    refine ca.mono ?_
    rintro e w1 ⟨rfl, g1⟩
    obtain ⟨r0, r1, r2, r3⟩ := cells4 (R0.gr g1)
    go_wp2_with fail
    refine (cr _).mono ?_
    rintro e w2 ⟨rfl, g2⟩
    have s0 : w2.cell? ⟨w.heap.size + 1, 0, none⟩ = some (.slice A n cb) := ((S0.gr g1).gr g2).cell 0
    clear r0 r1 r2 r3
    go_wp2
    go_ret
    exact ⟨rfl, (G0.trans g1).trans g2⟩

theorem pwriteS {pm pc W H : Nat} {L : List Int} (w : World) (hI : Img w pm pc W H L) (p r s t : Int) (A : Option Addr) (bs : List Int) (cb : Nat) (hA : Ns .u8 w A bs) (h8 : ∀ x ∈ bs, U8 x) (hcb : bs.length ≤ cb) (hc2 : cb ≤ maxLen) :
    Calls Try.prog 13 #[.pointer (some ⟨pm, 0, none⟩), .agg #[.int .i64 p, .int .i64 r, .int .i64 s, .int .i64 t], .slice A bs.length cb] w (DoM w pm pc W H (wtL W H L p r s t bs) (wtE W H p r s t bs)) := by
  unfold wtL wtE
  cases hin : fitB W H p r s t
  · rw [if_neg (by simp), if_pos rfl]
    exact DoM.rt hI (writeR w hI p r s t A bs.length cb hin)
  · rw [if_neg (show ¬ (true = false) by simp)]
    by_cases l1 : (bs.length : Int) < 4 * areaI p r s t
    · rw [if_neg (by omega), if_pos l1]
      exact DoM.rt hI (writeLL w hI p r s t A bs.length cb hin 3 (.inl ⟨l1, rfl⟩))
    · by_cases l2 : 4 * areaI p r s t < (bs.length : Int)
      · rw [if_neg (by omega), if_neg l1, if_pos l2]
        exact DoM.rt hI (writeLL w hI p r s t A bs.length cb hin 2 (.inr ⟨l2, rfl⟩))
      · have heq : (bs.length : Int) = 4 * areaI p r s t := by omega
        rw [if_neg l1, if_neg l2]
        obtain ⟨x0, y0, x1, y1, rfl, rfl, rfl, rfl, hx, hw, hy, hh, hN, hm⟩ := in_nat hin hI.w2 hI.h2
        cases ho : okL bs (areaI x0 y0 x1 y1).toNat
        · rw [if_neg (by simp), if_neg (by simp)]
          obtain ⟨K, k1, k2, k3⟩ := okL_bad bs _ ho
          have hsm : (x1 - x0) * (y1 - y0) ≤ 65536 := area_le (by have := hI.w2; omega) (by have := hI.h2; omega)
          rw [hN, Int.toNat_natCast] at k1
          exact DoM.rt hI (writeA w hI x0 y0 x1 y1 A bs cb hin hA h8 hcb hc2 heq (by omega) K (by omega) k3 k2)
        · rw [if_pos ⟨rfl, heq, rfl⟩, if_pos rfl]
          have hok := (okL_iff bs _).1 ho
          obtain ⟨N, hNe⟩ : ∃ N, N = (x1 - x0) * (y1 - y0) := ⟨_, rfl⟩
          rw [hN, Int.toNat_natCast, ← hNe] at hok
          rw [hN, ← hNe] at heq
          have := iwrite1 w hI x0 y0 x1 y1 hx hw hy hh A bs cb hA h8 hcb hc2 N hNe (by omega) hok
          rw [wr_eq hI.len hI.w1 hx hw hy hh hNe] at this
          rw [hN, Int.toNat_natCast, ← hNe, hm, Int.toNat_natCast, Int.toNat_natCast]
          exact this

theorem rwriteS {W H b c : Nat} {L : List Int} (w : World) (hR : RowN .u32 w b 0 L) (hl : L.length = W * H) (w1 : 1 ≤ W) (w2 : W ≤ 256) (h2 : H ≤ 256) (p r s t : Int) (A : Option Addr) (bs : List Int) (cb : Nat) (hA : Ns .u8 w A bs) (h8 : ∀ x ∈ bs, U8 x) :
    Calls Try.prog 12 #[.agg #[.int .i64 W, .int .i64 H, .slice (some ⟨b, 0, none⟩) L.length c], .agg #[.int .i64 p, .int .i64 r, .int .i64 s, .int .i64 t], .slice A bs.length cb] w (DoR w b W H L.length (wtL W H L p r s t bs) (wtE W H p r s t bs)) := by
  unfold wtL wtE
  cases hin : fitB W H p r s t
  · rw [if_neg (by simp), if_pos rfl]
    exact DoR.rt hR (rwriteR w p r s t hin)
  · rw [if_neg (show ¬ (true = false) by simp)]
    by_cases l1 : (bs.length : Int) < 4 * areaI p r s t
    · rw [if_neg (by omega), if_pos l1]
      exact DoR.rt hR (rwriteL w w2 h2 p r s t hin 3 (.inl ⟨l1, rfl⟩))
    · by_cases l2 : 4 * areaI p r s t < (bs.length : Int)
      · rw [if_neg (by omega), if_neg l1, if_pos l2]
        exact DoR.rt hR (rwriteL w w2 h2 p r s t hin 2 (.inr ⟨l2, rfl⟩))
      · have heq : (bs.length : Int) = 4 * areaI p r s t := by omega
        rw [if_neg l1, if_neg l2]
        obtain ⟨x0, y0, x1, y1, rfl, rfl, rfl, rfl, hx, hw, hy, hh, hN, hm⟩ := in_nat hin w2 h2
        obtain ⟨N, hNe⟩ : ∃ N, N = (x1 - x0) * (y1 - y0) := ⟨_, rfl⟩
        rw [hN, ← hNe] at heq
        rw [hN, Int.toNat_natCast, ← hNe, hm, Int.toNat_natCast, Int.toNat_natCast]
        have hNp : 1 ≤ N := by rw [hNe]; exact Nat.mul_pos (by omega) (by omega)
        rcases hA with hA | ⟨ga, off, rfl, hA⟩
        · subst hA; simp at heq; omega
        cases ho : okL bs N
        · rw [if_neg (by simp), if_neg (by simp)]
          obtain ⟨K, k1, k2, k3⟩ := okL_bad bs _ ho
          have := rwrite1 (cc := c) w hR hl w1 w2 h2 x0 y0 x1 y1 hx hw hy hh ga off cb bs hA h8 N hNe (by omega) K (by omega) k2 (fun _ => k3)
          rw [if_pos k1, if_pos k1] at this
          exact this
        · rw [if_pos ⟨rfl, heq, rfl⟩, if_pos rfl]
          have := rwrite1 (cc := c) w hR hl w1 w2 h2 x0 y0 x1 y1 hx hw hy hh ga off cb bs hA h8 N hNe (by omega) N (Nat.le_refl _) ((okL_iff bs _).1 ho) (fun h => absurd h (Nat.lt_irrefl _))
          rw [if_neg (Nat.lt_irrefl _), if_neg (Nat.lt_irrefl _)] at this
          exact this

end Go.Proofs.Ytackojmckloacaa
