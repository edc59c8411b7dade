/-
  What is proved: what 'heights' of package region hands back: all heights of two rows of bands, sorted, each once.
-/
import Derived.Test.YtafceieenhogpaaHt
namespace Go.Proofs.Ytafceieenhogpaa
open Go.RowKit Go.Sort

def ysL : List Bn → List Int
  | [] => []
  | b :: l => b.y0 :: b.y1 :: ysL l
theorem ysL_app : ∀ l m : List Bn, ysL (l ++ m) = ysL l ++ ysL m
  | [], m => rfl
  | b :: l, m => by show _ :: _ :: ysL (l ++ m) = _; rw [ysL_app l m]; rfl
theorem ysL_len : ∀ l : List Bn, (ysL l).length = 2 * l.length
  | [] => rfl
  | b :: l => by show (ysL l).length + 1 + 1 = 2 * (l.length + 1); rw [ysL_len l]; omega
theorem ysL_mem : ∀ (l : List Bn) (y : Int), y ∈ ysL l ↔ ∃ b ∈ l, y = b.y0 ∨ y = b.y1
  | [], y => by simp [ysL]
  | b :: l, y => by
    show y ∈ b.y0 :: b.y1 :: ysL l ↔ _
    simp only [List.mem_cons, ysL_mem l y]
    constructor
    · rintro (h | h | ⟨b', h1, h2⟩)
      · exact ⟨b, .inl rfl, .inl h⟩
      · exact ⟨b, .inl rfl, .inr h⟩
      · exact ⟨b', .inr h1, h2⟩
    · rintro ⟨b', rfl | h1, h2⟩
      · rcases h2 with h2 | h2
        · exact .inl h2
        · exact .inr (.inl h2)
      · exact .inr (.inr ⟨b', h1, h2⟩)
def ysK (p q : List Bn) : Nat → List Int
  | 0 => []
  | 1 => ysL p
  | _ => ysL p ++ ysL q
/-- What heights tells. -/
structure Hts (p q : List Bn) (ys : List Int) : Prop where
  inc : Inc ys
  mem : ∀ y, y ∈ ys ↔ ∃ b, (b ∈ p ∨ b ∈ q) ∧ (y = b.y0 ∨ y = b.y1)
  len : ys.length ≤ 2 * (p.length + q.length)

set_option maxRecDepth 100000 in
set_option maxHeartbeats 8000000 in
theorem heights1 (A B : Option Addr) (c d : Nat) (p q : List BW) (w : World) (hp : Bs w A p) (hq : Bs w B q) (hlp : p.length ≤ 1000000) (hlq : q.length ≤ 1000000) :
    Calls Try.prog 113 #[.slice A p.length c, .slice B q.length d] w (RN w (Hts (p.map BW.bn) (q.map BW.bn))) := by
  go_enter Try.func113, Try.ntmps113
  go_wp2
  go_loopw [5, 14] (fun v i wr => ∃ (k : Nat) (A' : Option Addr) (c' : Nat) (E : List Int), k ≤ 2 ∧ v = .slice A' E.length c' ∧ i = .int .i64 k ∧ OwI wr w.heap.size A' c' E ∧ Hid (E = ysK (p.map BW.bn) (q.map BW.bn) k) ∧ Bl w wr ∧
      At wr w.heap.size #[.slice A p.length c, .slice B q.length d] 87) (fun _ i _ => 2 - (intOf i).toNat)
  case atStart => exact ⟨0, none, 0, [], by omega, rfl, rfl, OwI.nil _ _, Lib.hid rfl, (Bl.refl w).alloc _, At.new _ _ _⟩
  case round =>
    obtain ⟨k, A', c', E, hk, rfl, rfl, own, hE, G, bx⟩ := hrel
    have hkl : E.length ≤ 4000000 := by
      rw [hE.out]
      match k, hk with
      | 0, _ => simp [ysK]
      | 1, _ => simp [ysK, ysL_len]; omega
      | 2, _ => simp [ysK, ysL_len]; omega
    by_cases hlt : k < 2
    · obtain ⟨Ai, ci, li, hBi, hcell, hli, hstep⟩ : ∃ (Ai : Option Addr) (ci : Nat) (li : List BW), Bs w Ai li ∧ wr.cell? ⟨w.heap.size, k, none⟩ = some (.slice Ai li.length ci) ∧ li.length ≤ 1000000 ∧
          ysK (p.map BW.bn) (q.map BW.bn) (k + 1) = ysK (p.map BW.bn) (q.map BW.bn) k ++ ysL (li.map BW.bn) := by
        have h1 : k = 0 ∨ k = 1 := by omega
        rcases h1 with rfl | rfl
        · exact ⟨A, c, p, hp, bx.cell 0, hlp, rfl⟩
        · exact ⟨B, d, q, hq, bx.cell 1, hlq, rfl⟩
      replace hstep := Lib.hid hstep
      have hkb : decide ((k : Int) < 2) = true := by simp; omega
      have szo := G.size
      obtain ⟨wo, hwo⟩ : ∃ wo : World, wo = wr := ⟨_, rfl⟩
      subst hwo
      go_wp2
      go_loopw [5, 20] (fun v i wr => ∃ (j : Nat) (A2 : Option Addr) (c2 : Nat) (E2 : List Int), j ≤ li.length ∧ v = .slice A2 E2.length c2 ∧ i = .int .i64 j ∧ OwI wr w.heap.size A2 c2 E2 ∧ Hid (E2 = E ++ ysL ((li.take j).map BW.bn)) ∧ Bl w wr ∧
          At wr w.heap.size #[.slice A p.length c, .slice B q.length d] 87) (fun _ i _ => li.length - (intOf i).toNat)
      case atStart => exact ⟨0, A', c', E, by omega, rfl, rfl, own, Lib.hid (by simp [ysL]), G, bx⟩
      case round =>
        obtain ⟨j, A2, c2, E2, hj, rfl, rfl, own2, hE2, G2, bx2⟩ := hrel
        by_cases hlt2 : j < li.length
        · obtain ⟨r, hr⟩ := list_at hlt2
          obtain ⟨b, off, rfl, hrow⟩ := hBi.opened (by omega)
          obtain ⟨e1, e2, e3⟩ := (hrow.bl G2).at_ hr
          have hl2 : E2.length ≤ 9000000 := by
            rw [hE2.out, List.length_append, ysL_len, List.length_map, List.length_take]; omega
          replace hr := Lib.hid hr
          have sz2 := G2.size
          have G3 := G2.alloc (.cells #[.int .i64 r.y0, .int .i64 r.y1, .slice r.A r.E.length r.c] 92)
          have own3 := own2.bl ((Bl.refl wr).alloc (.cells #[.int .i64 r.y0, .int .i64 r.y1, .slice r.A r.E.length r.c] 92))
          have bx3 := bx2.alloc (.cells #[.int .i64 r.y0, .int .i64 r.y1, .slice r.A r.E.length r.c] 92)
          have ne1 : some w.heap.size ≠ A2.map (·.block) := OwI.ne_at own2 bx2 (by decide)
          go_wp2_with (at_builtin; refine wp_app_ii rfl (.tmp 24) (.tmp 29) rfl A2 c2 E2 rfl w.heap.size (own3.bl ((Bl.refl _).alloc _)) (wr.heap.size + 1) r.y0 r.y1 2 rfl (At.new2 _ _ _ _) (by omega) (by simp; omega) ?_; intro A3 c3 w3 own4 ap3)
          go_roundw
          case rel =>
            refine ⟨j + 1, A3, c3, E2 ++ [r.y0, r.y1], by omega, by simp, by go_num, own4, Lib.hid ?_, ap3.bl (G3.alloc _) (own3.bl ((Bl.refl _).alloc _)).lies (Nat.le_refl _), (bx3.alloc _).grown ap3.1 ne1⟩
            rw [List.take_add_one, hr.out, hE2.out, List.map_append, ysL_app, List.append_assoc]; rfl
          case measure => simp [intOf]; omega
        · have hj2 : j = li.length := by omega
          go_wp2
          go_roundw
          case rel =>
            refine ⟨k + 1, A2, c2, E2, by omega, rfl, by go_num, own2, Lib.hid ?_, G2, bx2⟩
            rw [hE2.out, hstep.out, hj2, List.take_length, ← hE.out]
          case measure => simp [intOf]; omega
    · obtain rfl : k = 2 := by omega
      have sz := G.size
      obtain ⟨qi, qm, ql⟩ := compact_sorted E
      have hfin : Hts (p.map BW.bn) (q.map BW.bn) (Lib.compact (sortI E)) := by
        refine ⟨qi, fun y => ?_, ?_⟩
        · rw [qm, hE.out]
          show y ∈ ysL _ ++ ysL _ ↔ _
          rw [List.mem_append, ysL_mem, ysL_mem]
          constructor
          · rintro (⟨b, h1, h2⟩ | ⟨b, h1, h2⟩)
            · exact ⟨b, .inl h1, h2⟩
            · exact ⟨b, .inr h1, h2⟩
          · rintro ⟨b, h1 | h1, h2⟩
            · exact .inl ⟨b, h1, h2⟩
            · exact .inr ⟨b, h1, h2⟩
        · refine Nat.le_trans ql ?_
          rw [hE.out]
          show (ysL _ ++ ysL _).length ≤ _
          rw [List.length_append, ysL_len, ysL_len]; omega
      replace hfin := Lib.hid hfin
      clear qi qm ql
      have hsl := Lib.hid (sortI_len E)
      go_wp2_with fail
      refine (sort1 _ _ _ _ _ own (by omega) sz).mono ?_
      rintro e W1 ⟨rfl, own1, g1⟩
      have sz1 := g1.size
      have hsE : E.length = (sortI E).length := hsl.out.symm
      go_wp2_with fail
      refine (compact1 _ _ _ _ _ own1 (by omega) (by omega)).mono ?_
      rintro e W2 ⟨rfl, own2, g2⟩
      go_wp2
      go_ret
      exact ⟨A', c', _, rfl, own2, hfin.out, Below.trans (Below.trans G g1) g2⟩

end Go.Proofs.Ytafceieenhogpaa
