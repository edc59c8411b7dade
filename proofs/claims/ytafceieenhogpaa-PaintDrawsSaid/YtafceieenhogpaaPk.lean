/-
  What is proved: what both Draws and both Clears leave and tell, in the same words. No conditions but bounds.
-/
import Derived.Test.YtafceieenhogpaaPd
import Derived.Test.YtafceieenhogpaaPe
import Derived.Test.YtafceieenhogpaaPg
import Derived.Test.YtafceieenhogpaaPj
import Derived.Test.YtafceieenhogpaaZo
namespace Go.Proofs.Ytafceieenhogpaa
open Go.RowKit Go.Sort Go.Shelf

theorem far_16 {a : Int} (h : -6 ≤ a ∧ a ≤ 17) : Far a := by unfold Far; omega
theorem RowN.lt {k : IntKind} {w : World} {b off : Nat} {L : List Int} (h : RowN k w b off L) (hn : 0 < L.length) : b < w.heap.size := by
  obtain ⟨x, hx⟩ := list_at hn
  exact World.block_lt_of_cell? _ _ (h 0 x hx)
def drL (cp : Rc) (W2 H2 : Nat) (M : List Int) (s ax ay al : Int) (W : Nat) (L : List Int) (LW : List Rc) : List Int := upto (fun i => if (lyHas cp W2 H2 s ax ay (i % W : Nat) (i / W : Nat) && hasL LW (i % W : Nat) (i / W : Nat)) then ov (lyCol cp W2 H2 M s ax ay al (i % W : Nat) (i / W : Nat)) (L.getD i 0) else L.getD i 0) L.length
def drN (cp : Rc) (W2 H2 : Nat) (s ax ay : Int) (W : Nat) (L : List Int) (LW : List Rc) : Nat := cntI (fun i => (lyHas cp W2 H2 s ax ay (i % W : Nat) (i / W : Nat) && hasL LW (i % W : Nat) (i / W : Nat))) L.length
def clL (q : Int) (W : Nat) (L : List Int) (LW : List Rc) : List Int := if mayC q = true then upto (fun i => if hasL LW (i % W : Nat) (i / W : Nat) then q else L.getD i 0) L.length else L
def clN (q : Int) (W : Nat) (L : List Int) (LW : List Rc) : Nat := if mayC q = true then cntI (fun i => hasL LW (i % W : Nat) (i / W : Nat)) L.length else 0
theorem drL_len (cp : Rc) (W2 H2 : Nat) (M : List Int) (s ax ay al : Int) (W : Nat) (L : List Int) (LW : List Rc) : (drL cp W2 H2 M s ax ay al W L LW).length = L.length := by unfold drL; rw [upto_len]
theorem clL_len (q : Int) (W : Nat) (L : List Int) (LW : List Rc) : (clL q W L LW).length = L.length := by
  unfold clL; split
  · rw [upto_len]
  · rfl
theorem drN_le (cp : Rc) (W2 H2 : Nat) (s ax ay : Int) (W : Nat) (L : List Int) (LW : List Rc) : drN cp W2 H2 s ax ay W L LW ≤ L.length := by unfold drN; exact cntI_le _ _
theorem clN_le (q : Int) (W : Nat) (L : List Int) (LW : List Rc) : clN q W L LW ≤ L.length := by
  unfold clN; split
  · exact cntI_le _ _
  · exact Nat.zero_le _

theorem rclearU {W H b c : Nat} {L : List Int} (w : World) (hR : RowN .u32 w b 0 L) (hl : L.length = W * H) (w1 : 1 ≤ W) (w2 : W ≤ 256) (h1 : 1 ≤ H) (h2 : H ≤ 256) (AW : Option Addr) (cW : Nat) (LW : List Rc) (hW : Rs w AW LW) (hlW : LW.length ≤ 1000000) (q : Int) (hq : C32 q) :
    Calls Try.prog 39 #[.agg #[.int .i64 W, .int .i64 H, .slice (some ⟨b, 0, none⟩) L.length c], .slice AW LW.length cW, .int .u32 q] w
      (fun e w' => ∃ b' c', e = .returned (.tuple #[.agg #[.int .i64 W, .int .i64 H, .slice (some ⟨b', 0, none⟩) L.length c'], .int .i64 (clN q W L LW : Nat)]) ∧
        RowN .u32 w' b' 0 (clL q W L LW) ∧ w.heap.size ≤ b' ∧ Bl w w') := by
  unfold clN clL
  cases hm : mayC q with
  | true => exact rclear1 w hR hl w1 w2 h1 h2 AW cW LW hW hlW q hq hm
  | false =>
    refine (rclear0 w hR hl w1 w2 h1 h2 AW cW LW.length q hq hm).mono fun e w' h => ?_
    obtain ⟨b', c', he, hr, hb, g⟩ := h
    rw [upto_self] at hr
    exact ⟨b', c', by rw [he]; rfl, hr, hb, g⟩
theorem pclearU {pm pc W H : Nat} {L : List Int} (q : Int) (A0 : Option Addr) (k0 : Nat) (R0 : List Rc) (w : World) (hq : C32 q) (hI : Img w pm pc W H L) (hA : Rs w A0 R0) (hR0 : R0.length ≤ 1000000) :
    Calls Try.prog 43 #[.pointer (some ⟨pm, 0, none⟩), .slice A0 R0.length k0, .int .u32 q] w
      (fun e w' => e = .returned (.int .i64 (clN q W L R0 : Nat)) ∧ w.grownBy w' (some pc) ∧ Img w' pm pc W H (clL q W L R0)) := by
  unfold clN clL
  cases hm : mayC q with
  | true =>
    refine (pclear1 q A0 k0 R0 w hq hm hI hA hR0).mono fun e w' h => ?_
    obtain ⟨R, hQ, he, hg, hI'⟩ := h
    obtain ⟨e1, e2⟩ := clears_eq hI.w1 hI.len (q := q) hQ
    rw [e1] at hI'
    rw [e2] at he
    exact ⟨he, hg, hI'⟩
  | false =>
    refine (pclear0 q A0 k0 R0 w hq hm hI hA hR0).mono fun e w' h => ?_
    obtain ⟨he, g⟩ := h
    exact ⟨he, g.byr _, hI.bl g⟩
theorem pdrawU {pm pc W H p2 c2 W2 H2 : Nat} {L M : List Int} (ax ay s al : Int) (cp : Rc) (A0 : Option Addr) (k0 : Nat) (R0 : List Rc) (w : World) (hI : Img w pm pc W H L) (hJ : Img w p2 c2 W2 H2 M) (hne : p2 ≠ pm) (h1 : p2 ≠ pc) (h2 : c2 ≠ pc) (hL : MayL L) (hMM : MayL M)
    (hM : lyMay W2 H2 s al ax ay = true) (hs : 1 ≤ s) (hA : Rs w A0 R0) (hR0 : R0.length ≤ 1000000) :
    Calls Try.prog 40 #[.pointer (some ⟨pm, 0, none⟩), .agg #[.pointer (some ⟨p2, 0, none⟩), .int .i64 ax, .int .i64 ay, .int .i64 s, .int .i64 al, .int .i64 cp.a, .int .i64 cp.b, .int .i64 cp.c, .int .i64 cp.d], .slice A0 R0.length k0] w
      (fun e w' => e = .returned (.int .i64 (drN cp W2 H2 s ax ay W L R0 : Nat)) ∧ w.grownBy w' (some pc) ∧ Img w' pm pc W H (drL cp W2 H2 M s ax ay al W L R0)) := by
  refine (draw1 ax ay s al cp A0 k0 R0 w hI hJ hne h1 h2 hL hMM hM hA hR0).mono fun e w' h => ?_
  obtain ⟨R, hQ, he, hg, hI'⟩ := h
  obtain ⟨e1, e2⟩ := draws_eq hI.w1 hI.len (M := M) (al := al) hs hQ
  rw [e1] at hI'
  rw [e2] at he
  exact ⟨he, hg, hI'⟩
theorem rdrawU {W H b c W2 H2 rb rc n2 : Nat} {L : List Int} (w : World) (hR : RowN .u32 w b 0 L) (hl : L.length = W * H) (w1 : 1 ≤ W) (w2 : W ≤ 256) (h1 : 1 ≤ H) (h2 : H ≤ 256) (ax ay s al : Int) (cp : Rc) (sm : Bool) (M : List Int) (AW : Option Addr) (cW : Nat) (LW : List Rc) (hW : Rs w AW LW) (hlW : LW.length ≤ 1000000) (h32L : ∀ c ∈ L, C32 c) (hn2 : n2 = M.length) (hR2 : RowN .u32 w rb 0 M) (hl2 : M.length = W2 * H2) (h32 : ∀ c ∈ M, C32 c) (hW2 : W2 ≤ 256) (hH2 : H2 ≤ 256) (hs1 : 1 ≤ s) (hs8 : s ≤ 8) (hax : Far ax) (hay : Far ay) :
    Calls Try.prog 38 #[.agg #[.int .i64 W, .int .i64 H, .slice (some ⟨b, 0, none⟩) L.length c], .agg #[.bool sm, .int .i64 W2, .int .i64 H2, .slice (some ⟨rb, 0, none⟩) n2 rc, .int .i64 ax, .int .i64 ay, .int .i64 s, .int .i64 al, .int .i64 cp.a, .int .i64 cp.b, .int .i64 cp.c, .int .i64 cp.d], .slice AW LW.length cW] w
      (fun e w' => ∃ b' c', e = .returned (.tuple #[.agg #[.int .i64 W, .int .i64 H, .slice (some ⟨b', 0, none⟩) L.length c'], .int .i64 (drN cp W2 H2 s ax ay W L LW : Nat)]) ∧
        RowN .u32 w' b' 0 (drL cp W2 H2 M s ax ay al W L LW) ∧ w.heap.size ≤ b' ∧ Bl w w') :=
  rdraw1 w hR hl w1 w2 h1 h2 ax ay s al cp sm M AW cW LW hW hlW h32L hn2 hR2 hl2 h32 hW2 hH2 hs1 hs8 hax hay

end Go.Proofs.Ytafceieenhogpaa
