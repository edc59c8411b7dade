/-
  What is proved: what 'rectsOf' of package region hands back of bands.
-/
import Derived.Test.YtafceieenhogpaaE
import Derived.Test.YtafceieenhogpaaQ
import Derived.StillTailTactics
import Derived.Deep.QuietTactic
import Derived.BigQuiet
import Derived.Deep.RegionHeld3
import Derived.IntWalk
namespace Go.Proofs.Ytafceieenhogpaa
open Go.RowKit Go.Sort

def bandE (y0 y1 : Int) : List Int → List Rc
  | a :: b :: E => ⟨a, y0, b, y1⟩ :: bandE y0 y1 E
  | _ => []
def rectsL : List Bn → List Rc
  | [] => []
  | b :: l => bandE b.y0 b.y1 b.E ++ rectsL l
theorem rectsL_app : ∀ l m : List Bn, rectsL (l ++ m) = rectsL l ++ rectsL m
  | [], m => rfl
  | b :: l, m => by show _ ++ rectsL (l ++ m) = _; rw [rectsL_app l m, ← List.append_assoc]; rfl
theorem bandE_get (y0 y1 : Int) : ∀ (E : List Int) (j : Nat) (a b : Int), E[2 * j]? = some a → E[2 * j + 1]? = some b → (bandE y0 y1 E)[j]? = some ⟨a, y0, b, y1⟩
  | x :: y :: E, 0, a, b, h1, h2 => by
    simp at h1 h2; subst h1 h2; rfl
  | x :: y :: E, j + 1, a, b, h1, h2 => by
    show (bandE y0 y1 E)[j]? = _
    refine bandE_get y0 y1 E j a b ?_ ?_
    · rw [show 2 * (j + 1) = 2 * j + 1 + 1 from by omega] at h1; simpa using h1
    · rw [show 2 * (j + 1) + 1 = 2 * j + 1 + 1 + 1 from by omega] at h2; simpa using h2
  | [x], j, a, b, h1, h2 => by simp at h2
  | [], j, a, b, h1, h2 => by simp at h1
theorem bandE_len (y0 y1 : Int) : ∀ (E : List Int), (bandE y0 y1 E).length = E.length / 2
  | [] => rfl
  | [x] => by simp [bandE]
  | x :: y :: E => by show (bandE y0 y1 E).length + 1 = (E.length + 1 + 1) / 2; rw [bandE_len y0 y1 E]; omega
theorem take_more {α : Type} {l : List α} {j : Nat} {x : α} (h : l[j]? = some x) : l.take (j + 1) = l.take j ++ [x] := by
  rw [List.take_add_one, h]; rfl

def RR (w : World) (Q : List Rc → Prop) (e : Ending) (w' : World) : Prop := ∃ (A : Option Addr) (c : Nat) (L : List Rc), e = .returned (.slice A L.length c) ∧ OwR w' w.heap.size A c L ∧ Q L ∧ Bl w w'

set_option maxRecDepth 100000 in
set_option maxHeartbeats 8000000 in
theorem rectsOf1 (A : Option Addr) (c : Nat) (l : List BW) (w : World) (h : Bs w A l) (hl : l.length ≤ 1000000) (hE : ∀ r ∈ l, r.E.length % 2 = 0 ∧ r.E.length ≤ 9000000) (hN : (rectsL (l.map BW.bn)).length ≤ 1000000) :
    Calls Try.prog 118 #[.slice A l.length c] w (RR w (fun L => L = rectsL (l.map BW.bn))) := by
  go_enter Try.func118, Try.ntmps118
  go_wp2
  go_loopw [3, 9] (fun v i wr => ∃ (k : Nat) (A' : Option Addr) (c' : Nat) (O : List Rc), k ≤ l.length ∧ v = .slice A' O.length c' ∧ i = .int .i64 k ∧ OwR wr w.heap.size A' c' O ∧ Hid (O = rectsL ((l.take k).map BW.bn)) ∧ Bl w wr) (fun _ i _ => l.length - (intOf i).toNat)
  case atStart => exact ⟨0, none, 0, [], Nat.zero_le _, rfl, rfl, OwR.nil _ _, Lib.hid rfl, Bl.refl _⟩
  case round =>
    obtain ⟨k, A', c', O, hk, rfl, rfl, own, hO, G⟩ := hrel
    by_cases hlt : k < l.length
    · obtain ⟨⟨ry0, ry1, rE, rA, rc⟩, hr⟩ := list_at hlt
      obtain ⟨b, off, rfl, hrow⟩ := h.opened (by omega)
      obtain ⟨e1, e2, e3⟩ := (hrow.bl G).at_ hr
      obtain ⟨ev, el⟩ := hE _ (List.mem_of_getElem? hr)
      have ok := (h.2 _ (List.mem_of_getElem? hr)).bl G
      dsimp only at e1 e2 e3 ev el
      have htk : l.take (k + 1) = l.take k ++ [(⟨ry0, ry1, rE, rA, rc⟩ : BW)] := take_more hr
      have hpre : (rectsL ((l.take k).map BW.bn)).length + rE.length / 2 ≤ 1000000 := by
        have h1 : l.map BW.bn = (l.take (k + 1)).map BW.bn ++ (l.drop (k + 1)).map BW.bn := by rw [← List.map_append, List.take_append_drop]
        rw [h1, rectsL_app, htk, List.map_append, rectsL_app, List.length_append, List.length_append] at hN
        have h2 : (rectsL ([(⟨ry0, ry1, rE, rA, rc⟩ : BW)].map BW.bn)).length = rE.length / 2 := by
          show (bandE ry0 ry1 rE ++ []).length = _; rw [List.append_nil, bandE_len]
        omega
      replace htk := Lib.hid htk
      rw [← hO.out] at hpre
      replace hr := Lib.hid hr
      have own1 := own.bl ((Bl.refl wr).alloc (.cells #[.int .i64 ry0, .int .i64 ry1, .slice rA rE.length rc] 92))
      have bx := At.new wr #[.int .i64 ry0, .int .i64 ry1, .slice rA rE.length rc] 92
      have G1 := G.alloc (.cells #[.int .i64 ry0, .int .i64 ry1, .slice rA rE.length rc] 92)
      have ok1 := ok.bl ((Bl.refl wr).alloc (.cells #[.int .i64 ry0, .int .i64 ry1, .slice rA rE.length rc] 92))
      have szo := G.size
      obtain ⟨wo, hwo⟩ : ∃ wo : World, wo = wr := ⟨_, rfl⟩
      subst hwo
      go_wp2
      go_loopw [3, 6] (fun v i wr => ∃ (j : Nat) (A2 : Option Addr) (c2 : Nat) (O2 : List Rc), 2 * j ≤ rE.length ∧ v = .slice A2 O2.length c2 ∧ i = .int .i64 ((2 * j : Nat) : Int) ∧ OwR wr w.heap.size A2 c2 O2 ∧ Hid (O2 = O ++ (bandE ry0 ry1 rE).take j) ∧ Bl w wr ∧
        At wr wo.heap.size #[.int .i64 ry0, .int .i64 ry1, .slice rA rE.length rc] 92 ∧ BW.ok wr ⟨ry0, ry1, rE, rA, rc⟩) (fun _ i _ => rE.length - (intOf i).toNat)
      case atStart => exact ⟨0, A', c', O, by omega, rfl, rfl, own1, Lib.hid (by simp), G1, bx, ok1⟩
      case round =>
        obtain ⟨j, A2, c2, O2, hj, rfl, rfl, own2, hO2, G2, bx2, ok2⟩ := hrel
        have k0 := bx2.cell
        by_cases hlt2 : 2 * j < rE.length
        · obtain ⟨xa, hxa⟩ := list_at hlt2
          obtain ⟨xb, hxb⟩ := list_at (show 2 * j + 1 < rE.length by omega)
          obtain ⟨b2, o2, hA2, ri⟩ := ok2.2.opened (by dsimp only; omega)
          dsimp only at hA2 ri
          subst hA2
          have d1 := ri _ _ hxa
          have d2 := ri _ _ hxb
          have hb := Lib.hid (bandE_get ry0 ry1 rE j xa xb hxa hxb)
          have hlO : O2.length ≤ 1000000 := by rw [hO2.out, List.length_append, List.length_take]; omega
          clear hxa hxb ri e1 e2 e3 hrow
          have sz2 := G2.size
          have lb1 : wo.heap.size < wr.heap.size := bx2.lt
          have lb2 : b2 < w.heap.size := by
            have q := h.2 _ (List.mem_of_getElem? hr.out)
            obtain ⟨b3, o3, q1, q2⟩ := q.2.opened (by dsimp only; omega)
            injection q1 with q1
            injection q1 with q1
            subst q1
            obtain ⟨y, hy⟩ := list_at hlt2
            exact World.block_lt_of_cell? w _ (q2 _ _ hy)
          have ne1 : some wo.heap.size ≠ A2.map (·.block) := OwR.ne_at own2 bx2 (by decide)
          have ne2 : some b2 ≠ A2.map (·.block) := by
            rcases own2.lies with rfl | ⟨g', rfl, q1, _⟩
            · simp
            · simp; omega
          obtain ⟨q, hq⟩ : ∃ q, q = 2 * j := ⟨_, rfl⟩
          rw [← hq] at d1 d2 hlt2 ⊢
          have hq1 : q + 1 < rE.length := by omega
          have hq3 : q ≤ 9000000 := by omega
          replace hq := Lib.hid hq
          have hq2 : (q : Int) + 1 < (rE.length : Int) := by omega
          have w1 : IntKind.i64.wrap ((q : Int) + 1) = (q : Int) + 1 := IntWalk.i64_in _ (by omega)
          have w2 : ((q : Int) + 1).toNat = q + 1 := by omega
          have w3 : (0 : Int) ≤ (q : Int) + 1 := by omega
          have n0 := k0 0
          have n1 := k0 1
          have n2 := k0 2
          simp only [List.getElem?_toArray, List.getElem?_cons_zero, List.getElem?_cons_succ] at n0 n1 n2
          clear k0
          go_wp2
          go_region_held3 (fun w' => w'.cell? ⟨wo.heap.size, 0, none⟩ = some (.int .i64 ry0) ∧ w'.cell? ⟨wo.heap.size, 1, none⟩ = some (.int .i64 ry1) ∧ w'.cell? ⟨wo.heap.size, 2, none⟩ = some (.slice (some ⟨b2, o2, none⟩) rE.length rc) ∧
              w'.cell? ⟨b2, o2 + q, none⟩ = some (.int .i64 xa) ∧ w'.cell? ⟨b2, o2 + (q + 1), none⟩ = some (.int .i64 xb))
            (first
              | go_keep
              | (refine ⟨?_, ?_, ?_, ?_, ?_⟩
                 · (rw [ap3.1.cell_far _ (by simp; omega) ne1]; simp [*])
                 · (rw [ap3.1.cell_far _ (by simp; omega) ne1]; simp [*])
                 · (rw [ap3.1.cell_far _ (by simp; omega) ne1]; simp [*])
                 · (rw [ap3.1.cell_far _ (by simp; omega) ne2]; simp [*])
                 · (rw [ap3.1.cell_far _ (by simp; omega) ne2]; simp [*])))
            ((refine step_app_r (by rfl) (.tmp 20) (.tmp 37) (by rfl) A2 c2 O2 (by rfl) w.heap.size ((own2.bl ((Bl.refl wr).alloc _)).bl (Bl.refl _).drew) wr.heap.size ⟨xa, ry0, xb, ry1⟩ 1 (by rfl) (At.drew (At.new wr _ _)) (by omega) (by simp; omega) ?_; intro A3 c3 w3' own5 ap3))
          clear w1 w2 w3 n0 n1 n2 d1 d2
          go_wp2
          go_roundw
          case rel =>
            refine ⟨j + 1, A3, c3, O2 ++ [⟨xa, ry0, xb, ry1⟩], by have := hq.out; omega, by simp, ?_, own5, Lib.hid ?_, ap3.bl ((G2.alloc _).drew) ((own2.bl ((Bl.refl wr).alloc _)).bl (Bl.refl _).drew).lies (Nat.le_refl _), ((bx2.alloc _).drew).grown ap3.1 ne1, ok2.1, ?_⟩
            · rw [show ((2 * (j + 1) : Nat) : Int) = (q : Int) + 2 from by have := hq.out; omega]
            · rw [take_more hb.out, hO2.out, List.append_assoc]
            · exact (ok2.2.bl (((Bl.refl wr).alloc _).drew)).grown ap3.1 (by intro k hk; simp at hk; subst hk; exact ne2)
          case measure => simp [intOf]; omega
        · have hj2 : 2 * j = rE.length := by omega
          have k1 := k0
          go_wp2
          have htk2 : (bandE ry0 ry1 rE).take j = bandE ry0 ry1 rE := List.take_of_length_le (by rw [bandE_len]; omega)
          go_roundw
          case rel =>
            refine ⟨k + 1, A2, c2, O2, by omega, rfl, by go_num, own2, Lib.hid ?_, G2⟩
            rw [htk.out, List.map_append, rectsL_app, ← hO.out, hO2.out, htk2]
            show _ = O ++ (bandE ry0 ry1 rE ++ [])
            rw [List.append_nil]
          case measure => simp [intOf]; omega
    · obtain rfl : k = l.length := by omega
      go_wp2
      go_ret
      exact ⟨A', c', O, rfl, own, by rw [hO.out, List.take_length], G⟩

end Go.Proofs.Ytafceieenhogpaa
