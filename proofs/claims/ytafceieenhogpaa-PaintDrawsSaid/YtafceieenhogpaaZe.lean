/-
  What is proved: what 'rectsOf' of package region hands back of bands. contracts of the library calls that this program reaches, laid at its own numbers. No conditions but their own. what the comparisons of rows of ints, and of bands, hand back. what 'add' of package region does to the bands that the call owns. what 'heights' of package region hands back: all heights of two rows of bands, sorted, each once. what 'heights' of package region hands back: all heights of two rows of bands, sorted, each once.
-/
import Derived.Test.YtafceieenhogpaaZd
import Derived.StillTailTactics
import Derived.Deep.QuietTactic
import Derived.BigQuiet
import Derived.Deep.RegionHeld3
import Derived.IntWalk
import Derived.Shelf.Sort.Plain
import Derived.Shelf.Slices.Equal
import Derived.Ground.Names2Prog
import Derived.Shelf.Slices.CompactI
import Derived.Shelf.Slices.Cells
import Derived.Shelf.Slices.In.SortNone
import Derived.Shelf.Slices.Empties2
import Derived.Test.YtafceieenhogpaaProg
import Derived.Lib.OwnBridge
namespace Go.Proofs.Ytafceieenhogpaa
open Go.RowKit Go.Sort

def bandE (y0 y1 : Int) : List Int → List Rc
  | a :: b :: E => ⟨a, y0, b, y1⟩ :: bandE y0 y1 E
  | _ => []
def rectsL : List Bn → List Rc
  | [] => []
  | b :: l => bandE b.y0 b.y1 b.E ++ rectsL l
theorem rectsL_app : ∀ l m : List Bn, rectsL (l ++ m) = rectsL l ++ rectsL m
  | [], m => rfl
  | b :: l, m => by show _ ++ rectsL (l ++ m) = _; rw [rectsL_app l m, ← List.append_assoc]; rfl
theorem bandE_get (y0 y1 : Int) : ∀ (E : List Int) (j : Nat) (a b : Int), E[2 * j]? = some a → E[2 * j + 1]? = some b → (bandE y0 y1 E)[j]? = some ⟨a, y0, b, y1⟩
  | x :: y :: E, 0, a, b, h1, h2 => by
    simp at h1 h2; subst h1 h2; rfl
  | x :: y :: E, j + 1, a, b, h1, h2 => by
    show (bandE y0 y1 E)[j]? = _
    refine bandE_get y0 y1 E j a b ?_ ?_
    · rw [show 2 * (j + 1) = 2 * j + 1 + 1 from by omega] at h1; simpa using h1
    · rw [show 2 * (j + 1) + 1 = 2 * j + 1 + 1 + 1 from by omega] at h2; simpa using h2
  | [x], j, a, b, h1, h2 => by simp at h2
  | [], j, a, b, h1, h2 => by simp at h1
theorem bandE_len (y0 y1 : Int) : ∀ (E : List Int), (bandE y0 y1 E).length = E.length / 2
  | [] => rfl
  | [x] => by simp [bandE]
  | x :: y :: E => by show (bandE y0 y1 E).length + 1 = (E.length + 1 + 1) / 2; rw [bandE_len y0 y1 E]; omega
theorem take_more {α : Type} {l : List α} {j : Nat} {x : α} (h : l[j]? = some x) : l.take (j + 1) = l.take j ++ [x] := by
  rw [List.take_add_one, h]; rfl

def RR (w : World) (Q : List Rc → Prop) (e : Ending) (w' : World) : Prop := ∃ (A : Option Addr) (c : Nat) (L : List Rc), e = .returned (.slice A L.length c) ∧ OwR w' w.heap.size A c L ∧ Q L ∧ Bl w w'

set_option maxRecDepth 100000 in
set_option maxHeartbeats 8000000 in
theorem rectsOf1 (A : Option Addr) (c : Nat) (l : List BW) (w : World) (h : Bs w A l) (hl : l.length ≤ 1000000) (hE : ∀ r ∈ l, r.E.length % 2 = 0 ∧ r.E.length ≤ 9000000) (hN : (rectsL (l.map BW.bn)).length ≤ 1000000) :
    Calls Try.prog 118 #[.slice A l.length c] w (RR w (fun L => L = rectsL (l.map BW.bn))) := by
  go_enter Try.func118, Try.ntmps118
  go_wp2
  go_loopw [3, 9] (fun v i wr => ∃ (k : Nat) (A' : Option Addr) (c' : Nat) (O : List Rc), k ≤ l.length ∧ v = .slice A' O.length c' ∧ i = .int .i64 k ∧ OwR wr w.heap.size A' c' O ∧ Hid (O = rectsL ((l.take k).map BW.bn)) ∧ Bl w wr) (fun _ i _ => l.length - (intOf i).toNat)
  case atStart => exact ⟨0, none, 0, [], Nat.zero_le _, rfl, rfl, OwR.nil _ _, Lib.hid rfl, Bl.refl _⟩
  case round =>
    obtain ⟨k, A', c', O, hk, rfl, rfl, own, hO, G⟩ := hrel
    by_cases hlt : k < l.length
    · obtain ⟨⟨ry0, ry1, rE, rA, rc⟩, hr⟩ := list_at hlt
      obtain ⟨b, off, rfl, hrow⟩ := h.opened (by omega)
      obtain ⟨e1, e2, e3⟩ := (hrow.bl G).at_ hr
      obtain ⟨ev, el⟩ := hE _ (List.mem_of_getElem? hr)
      have ok := (h.2 _ (List.mem_of_getElem? hr)).bl G
      dsimp only at e1 e2 e3 ev el
      have htk : l.take (k + 1) = l.take k ++ [(⟨ry0, ry1, rE, rA, rc⟩ : BW)] := take_more hr
      have hpre : (rectsL ((l.take k).map BW.bn)).length + rE.length / 2 ≤ 1000000 := by
        have h1 : l.map BW.bn = (l.take (k + 1)).map BW.bn ++ (l.drop (k + 1)).map BW.bn := by rw [← List.map_append, List.take_append_drop]
        rw [h1, rectsL_app, htk, List.map_append, rectsL_app, List.length_append, List.length_append] at hN
        have h2 : (rectsL ([(⟨ry0, ry1, rE, rA, rc⟩ : BW)].map BW.bn)).length = rE.length / 2 := by
          show (bandE ry0 ry1 rE ++ []).length = _; rw [List.append_nil, bandE_len]
        omega
      replace htk := Lib.hid htk
      rw [← hO.out] at hpre
      replace hr := Lib.hid hr
      have own1 := own.bl ((Bl.refl wr).alloc (.cells #[.int .i64 ry0, .int .i64 ry1, .slice rA rE.length rc] 92))
      have bx := At.new wr #[.int .i64 ry0, .int .i64 ry1, .slice rA rE.length rc] 92
      have G1 := G.alloc (.cells #[.int .i64 ry0, .int .i64 ry1, .slice rA rE.length rc] 92)
      have ok1 := ok.bl ((Bl.refl wr).alloc (.cells #[.int .i64 ry0, .int .i64 ry1, .slice rA rE.length rc] 92))
      have szo := G.size
      obtain ⟨wo, hwo⟩ : ∃ wo : World, wo = wr := ⟨_, rfl⟩
      subst hwo
      go_wp2
      go_loopw [3, 6] (fun v i wr => ∃ (j : Nat) (A2 : Option Addr) (c2 : Nat) (O2 : List Rc), 2 * j ≤ rE.length ∧ v = .slice A2 O2.length c2 ∧ i = .int .i64 ((2 * j : Nat) : Int) ∧ OwR wr w.heap.size A2 c2 O2 ∧ Hid (O2 = O ++ (bandE ry0 ry1 rE).take j) ∧ Bl w wr ∧
        At wr wo.heap.size #[.int .i64 ry0, .int .i64 ry1, .slice rA rE.length rc] 92 ∧ BW.ok wr ⟨ry0, ry1, rE, rA, rc⟩) (fun _ i _ => rE.length - (intOf i).toNat)
      case atStart => exact ⟨0, A', c', O, by omega, rfl, rfl, own1, Lib.hid (by simp), G1, bx, ok1⟩
      case round =>
        obtain ⟨j, A2, c2, O2, hj, rfl, rfl, own2, hO2, G2, bx2, ok2⟩ := hrel
        have k0 := bx2.cell
        by_cases hlt2 : 2 * j < rE.length
        · obtain ⟨xa, hxa⟩ := list_at hlt2
          obtain ⟨xb, hxb⟩ := list_at (show 2 * j + 1 < rE.length by omega)
          obtain ⟨b2, o2, hA2, ri⟩ := ok2.2.opened (by dsimp only; omega)
          dsimp only at hA2 ri
          subst hA2
          have d1 := ri _ _ hxa
          have d2 := ri _ _ hxb
          have hb := Lib.hid (bandE_get ry0 ry1 rE j xa xb hxa hxb)
          have hlO : O2.length ≤ 1000000 := by rw [hO2.out, List.length_append, List.length_take]; omega
          clear hxa hxb ri e1 e2 e3 hrow
          have sz2 := G2.size
          have lb1 : wo.heap.size < wr.heap.size := bx2.lt
          have lb2 : b2 < w.heap.size := by
            have q := h.2 _ (List.mem_of_getElem? hr.out)
            obtain ⟨b3, o3, q1, q2⟩ := q.2.opened (by dsimp only; omega)
            injection q1 with q1
            injection q1 with q1
            subst q1
            obtain ⟨y, hy⟩ := list_at hlt2
            exact World.block_lt_of_cell? w _ (q2 _ _ hy)
          have ne1 : some wo.heap.size ≠ A2.map (·.block) := OwR.ne_at own2 bx2 (by decide)
          have ne2 : some b2 ≠ A2.map (·.block) := by
            rcases own2.lies with rfl | ⟨g', rfl, q1, _⟩
            · simp
            · simp; omega
          obtain ⟨q, hq⟩ : ∃ q, q = 2 * j := ⟨_, rfl⟩
          rw [← hq] at d1 d2 hlt2 ⊢
          have hq1 : q + 1 < rE.length := by omega
          have hq3 : q ≤ 9000000 := by omega
          replace hq := Lib.hid hq
          have hq2 : (q : Int) + 1 < (rE.length : Int) := by omega
          have w1 : IntKind.i64.wrap ((q : Int) + 1) = (q : Int) + 1 := IntWalk.i64_in _ (by omega)
          have w2 : ((q : Int) + 1).toNat = q + 1 := by omega
          have w3 : (0 : Int) ≤ (q : Int) + 1 := by omega
          have n0 := k0 0
          have n1 := k0 1
          have n2 := k0 2
          simp only [List.getElem?_toArray, List.getElem?_cons_zero, List.getElem?_cons_succ] at n0 n1 n2
          clear k0
          go_wp2
          go_region_held3 (fun w' => w'.cell? ⟨wo.heap.size, 0, none⟩ = some (.int .i64 ry0) ∧ w'.cell? ⟨wo.heap.size, 1, none⟩ = some (.int .i64 ry1) ∧ w'.cell? ⟨wo.heap.size, 2, none⟩ = some (.slice (some ⟨b2, o2, none⟩) rE.length rc) ∧
              w'.cell? ⟨b2, o2 + q, none⟩ = some (.int .i64 xa) ∧ w'.cell? ⟨b2, o2 + (q + 1), none⟩ = some (.int .i64 xb))
            (first
              | go_keep
              | (refine ⟨?_, ?_, ?_, ?_, ?_⟩
                 · (rw [ap3.1.cell_far _ (by simp; omega) ne1]; simp [*])
                 · (rw [ap3.1.cell_far _ (by simp; omega) ne1]; simp [*])
                 · (rw [ap3.1.cell_far _ (by simp; omega) ne1]; simp [*])
                 · (rw [ap3.1.cell_far _ (by simp; omega) ne2]; simp [*])
                 · (rw [ap3.1.cell_far _ (by simp; omega) ne2]; simp [*])))
            ((refine step_app_r (by rfl) (.tmp 20) (.tmp 37) (by rfl) A2 c2 O2 (by rfl) w.heap.size ((own2.bl ((Bl.refl wr).alloc _)).bl (Bl.refl _).drew) wr.heap.size ⟨xa, ry0, xb, ry1⟩ 1 (by rfl) (At.drew (At.new wr _ _)) (by omega) (by simp; omega) ?_; intro A3 c3 w3' own5 ap3))
          clear w1 w2 w3 n0 n1 n2 d1 d2
          go_wp2
          go_roundw
          case rel =>
            refine ⟨j + 1, A3, c3, O2 ++ [⟨xa, ry0, xb, ry1⟩], by have := hq.out; omega, by simp, ?_, own5, Lib.hid ?_, ap3.bl ((G2.alloc _).drew) ((own2.bl ((Bl.refl wr).alloc _)).bl (Bl.refl _).drew).lies (Nat.le_refl _), ((bx2.alloc _).drew).grown ap3.1 ne1, ok2.1, ?_⟩
            · rw [show ((2 * (j + 1) : Nat) : Int) = (q : Int) + 2 from by have := hq.out; omega]
            · rw [take_more hb.out, hO2.out, List.append_assoc]
            · exact (ok2.2.bl (((Bl.refl wr).alloc _).drew)).grown ap3.1 (by intro k hk; simp at hk; subst hk; exact ne2)
          case measure => simp [intOf]; omega
        · have hj2 : 2 * j = rE.length := by omega
          have k1 := k0
          go_wp2
          have htk2 : (bandE ry0 ry1 rE).take j = bandE ry0 ry1 rE := List.take_of_length_le (by rw [bandE_len]; omega)
          go_roundw
          case rel =>
            refine ⟨k + 1, A2, c2, O2, by omega, rfl, by go_num, own2, Lib.hid ?_, G2⟩
            rw [htk.out, List.map_append, rectsL_app, ← hO.out, hO2.out, htk2]
            show _ = O ++ (bandE ry0 ry1 rE ++ [])
            rw [List.append_nil]
          case measure => simp [intOf]; omega
    · obtain rfl : k = l.length := by omega
      go_wp2
      go_ret
      exact ⟨A', c', O, rfl, own, by rw [hO.out, List.take_length], G⟩

end Go.Proofs.Ytafceieenhogpaa
namespace Go.Proofs.Ytafceieenhogpaa
open Go.Shelf
def sh_lays189_ren : Go.Shelf.Ren := ⟨fun | 189 => 122 | 125 => 125 | 257 => 124 | 128 => 135 | 129 => 136 | 294 => 126 | 295 => 127 | 296 => 128 | 297 => 129 | 298 => 130 | 299 => 131 | 216 => 132 | 300 => 133 | 301 => 134 | 328 => 137 | 329 => 138 | 330 => 139 | 331 => 140 | 332 => 141 | 215 => 142 | 343 => 143 | n => n, fun | 28 => 90 | 3 => 3 | 46 => 113 | 0 => 0 | 51 => 38 | 53 => 168 | 4 => 4 | 183 => 160 | 182 => 159 | 131 => 164 | 5 => 5 | 9 => 9 | 218 => 169 | 222 => 173 | 228 => 176 | 229 => 177 | n => n, fun | n => n⟩
theorem sh_lays189 : Go.Proofs.Lays.n189 Try.prog sh_lays189_ren := {
  mixed := by kernel_rfl
  f125 := Try.func125.trans (congrArg some (by kernel_rfl))
  f128 := Try.func135.trans (congrArg some (by kernel_rfl))
  f129 := Try.func136.trans (congrArg some (by kernel_rfl))
  f189 := Try.func122.trans (congrArg some (by kernel_rfl))
  f215 := Try.func142.trans (congrArg some (by kernel_rfl))
  f216 := Try.func132.trans (congrArg some (by kernel_rfl))
  f257 := Try.func124.trans (congrArg some (by kernel_rfl))
  f294 := Try.func126.trans (congrArg some (by kernel_rfl))
  f295 := Try.func127.trans (congrArg some (by kernel_rfl))
  f296 := Try.func128.trans (congrArg some (by kernel_rfl))
  f297 := Try.func129.trans (congrArg some (by kernel_rfl))
  f298 := Try.func130.trans (congrArg some (by kernel_rfl))
  f299 := Try.func131.trans (congrArg some (by kernel_rfl))
  f300 := Try.func133.trans (congrArg some (by kernel_rfl))
  f301 := Try.func134.trans (congrArg some (by kernel_rfl))
  f328 := Try.func137.trans (congrArg some (by kernel_rfl))
  f329 := Try.func138.trans (congrArg some (by kernel_rfl))
  f330 := Try.func139.trans (congrArg some (by kernel_rfl))
  f331 := Try.func140.trans (congrArg some (by kernel_rfl))
  f332 := Try.func141.trans (congrArg some (by kernel_rfl))
  f343 := Try.func143.trans (congrArg some (by kernel_rfl))
  t0 := Try.underlying0
  a0 := Try.isAgg0
  z0 := Try.sizeOf0
  v0 := Try.zeroValue0
  t3 := Try.underlying3
  a3 := Try.isAgg3
  z3 := Try.sizeOf3
  v3 := Try.zeroValue3
  t4 := Try.underlying4
  a4 := Try.isAgg4
  z4 := Try.sizeOf4
  v4 := Try.zeroValue4
  t5 := Try.underlying5
  a5 := Try.isAgg5
  z5 := Try.sizeOf5
  v5 := Try.zeroValue5
  t9 := Try.underlying9
  a9 := Try.isAgg9
  z9 := Try.sizeOf9
  v9 := Try.zeroValue9
  t28 := Try.underlying90
  a28 := Try.isAgg90
  z28 := Try.sizeOf90
  v28 := Try.zeroValue90
  t46 := Try.underlying113
  a46 := Try.isAgg113
  z46 := Try.sizeOf113
  v46 := Try.zeroValue113
  t51 := Try.underlying38
  a51 := Try.isAgg38
  z51 := Try.sizeOf38
  v51 := Try.zeroValue38
  t53 := Try.underlying168
  a53 := Try.isAgg168
  z53 := Try.sizeOf168
  v53 := Try.zeroValue168
  t131 := Try.underlying164
  a131 := Try.isAgg164
  z131 := Try.sizeOf164
  v131 := Try.zeroValue164
  t182 := Try.underlying159
  a182 := Try.isAgg159
  z182 := Try.sizeOf159
  v182 := Try.zeroValue159
  t183 := Try.underlying160
  a183 := Try.isAgg160
  z183 := Try.sizeOf160
  v183 := Try.zeroValue160
  t218 := Try.underlying169
  a218 := Try.isAgg169
  z218 := Try.sizeOf169
  v218 := Try.zeroValue169
  t222 := Try.underlying173
  a222 := Try.isAgg173
  z222 := Try.sizeOf173
  v222 := Try.zeroValue173
  t228 := Try.underlying176
  a228 := Try.isAgg176
  z228 := Try.sizeOf176
  v228 := Try.zeroValue176
  t229 := Try.underlying177
  a229 := Try.isAgg177
  z229 := Try.sizeOf177
  v229 := Try.zeroValue177 }
open Go.Sort Go.RowKit in
theorem sh_Sort (blk off cap : Nat) (zs : List Int) (w : World) (hH : Holds (Value.int .i64) w blk off zs.toArray) (hblk : blk < w.heap.size) (hsz : zs.length < 4611686018427387904) :
    Calls Try.prog 122 #[.slice (some ⟨blk, off, none⟩) zs.length cap] w fun e w' =>
      e = .returned (.tuple #[]) ∧ ∃ n os, w' = grow (putRow (Value.int .i64) (Sort.ahead w n) blk off (zs.mergeSort fun x y => decide (x ≤ y)).toArray) os := Any.slices_Sort_int sh_lays189 blk off cap zs w hH hblk hsz
def sh_lays111_ren : Go.Shelf.Ren := ⟨fun | 111 => 87 | n => n, fun | 28 => 90 | 3 => 3 | 4 => 4 | 0 => 0 | n => n, fun | n => n⟩
theorem sh_lays111 : Go.Proofs.Lays.n111 Try.prog sh_lays111_ren := {
  mixed := by kernel_rfl
  f111 := Try.func87.trans (congrArg some (by kernel_rfl))
  t0 := Try.underlying0
  a0 := Try.isAgg0
  z0 := Try.sizeOf0
  v0 := Try.zeroValue0
  t3 := Try.underlying3
  a3 := Try.isAgg3
  z3 := Try.sizeOf3
  v3 := Try.zeroValue3
  t4 := Try.underlying4
  a4 := Try.isAgg4
  z4 := Try.sizeOf4
  v4 := Try.zeroValue4
  t28 := Try.underlying90
  a28 := Try.isAgg90
  z28 := Try.sizeOf90
  v28 := Try.zeroValue90 }
open Go.RowKit Go.Lib in
theorem sh_Equal (b1 o1 n c b2 o2 m d : Nat) (xs ys : List Int) (w : World) (hx : n ≤ xs.length) (hy : m ≤ ys.length) (hbig : n ≤ 9223372036854775807) (hbig2 : m ≤ 9223372036854775807) (hc1 : ∀ j, j < xs.length → w.cell? ⟨b1, o1 + j, none⟩ = some (.int .i64 (xs.getD j 0))) (hc2 : ∀ j, j < ys.length → w.cell? ⟨b2, o2 + j, none⟩ = some (.int .i64 (ys.getD j 0))) :
    Calls Try.prog 87 #[.slice (some ⟨b1, o1, none⟩) n c, .slice (some ⟨b2, o2, none⟩) m d] w fun e w' => e = .returned (.bool (xs.take n == ys.take m)) ∧ ∃ q, w' = w.drewN q := Any.slices_Equal_int sh_lays111 b1 o1 n c b2 o2 m d xs ys w hx hy hbig hbig2 hc1 hc2
open Go.RowKit Go.Lib in
theorem sh_Equal_empty (a1 a2 : Option Addr) (c m d : Nat) (w : World) (hbig2 : m ≤ 9223372036854775807) :
    Calls Try.prog 87 #[.slice a1 0 c, .slice a2 m d] w fun e w' => e = .returned (.bool (decide (m = 0))) ∧ w' = w := Any.slices_Equal_int_empty sh_lays111 a1 a2 c m d w hbig2
def sh_laysNm220_ren : Go.Shelf.Ren := ⟨fun | 20 => 123 | n => n, fun | 22 => 90 | 3 => 3 | 4 => 4 | 0 => 0 | n => n, fun | n => n⟩
theorem sh_laysNm220 : Go.Proofs.Lays2.n20 Try.prog sh_laysNm220_ren := {
  mixed := by kernel_rfl
  f20 := Try.func123.trans (congrArg some (by kernel_rfl))
  t0 := Try.underlying0
  a0 := Try.isAgg0
  z0 := Try.sizeOf0
  v0 := Try.zeroValue0
  t3 := Try.underlying3
  a3 := Try.isAgg3
  z3 := Try.sizeOf3
  v3 := Try.zeroValue3
  t4 := Try.underlying4
  a4 := Try.isAgg4
  z4 := Try.sizeOf4
  v4 := Try.zeroValue4
  t22 := Try.underlying90
  a22 := Try.isAgg90
  z22 := Try.sizeOf90
  v22 := Try.zeroValue90
  i3 := by kernel_rfl }
open Go.RowKit Go.Lib Go.Sort in
theorem sh_Compact_arr (blk off cap : Nat) (d : Array Int) (w : World) (hH : Holds encI w blk off d) (hsz : d.size ≤ 9223372036854775807) (hcap : d.size ≤ cap) :
    Calls Try.prog 123 #[.slice (some ⟨blk, off, none⟩) d.size cap] w fun e w' => e = .returned (.slice (some ⟨blk, off, none⟩) (compactUpTo d d.size).length cap) ∧ ∃ q, w' = putRow encI (Sort.ahead w q) blk off (compactUpTo d d.size ++ List.replicate (d.size - (compactUpTo d d.size).length) 0).toArray := Any.slices_Compact_int_arr sh_laysNm220 blk off cap d w hH hsz hcap
open Go.RowKit Go.Lib Go.Sort in
theorem sh_Compact (blk off cap : Nat) (zs : List Int) (w : World) (hH : Holds (Value.int .i64) w blk off zs.toArray) (hsz : zs.length ≤ 9223372036854775807) (hcap : zs.length ≤ cap) :
    Calls Try.prog 123 #[.slice (some ⟨blk, off, none⟩) zs.length cap] w fun e w' => e = .returned (.slice (some ⟨blk, off, none⟩) (Lib.compact zs).length cap) ∧ ∃ q, w' = putRow (Value.int .i64) (Sort.ahead w q) blk off (Lib.compact zs ++ List.replicate (zs.length - (Lib.compact zs).length) 0).toArray := Any.slices_Compact_int sh_laysNm220 blk off cap zs w hH hsz hcap
open Go.RowKit Go.Lib Go.Sort in
theorem sh_Compact_empty (a : Option Addr) (cap : Nat) (w : World) :
    Calls Try.prog 123 #[.slice a 0 cap] w fun e w' => e = .returned (.slice a 0 cap) ∧ w' = w := Any.slices_Compact_int_empty sh_laysNm220 a cap w
open Go.RowKit Go.Lib Go.Sort in
theorem sh_Compact_cells (b off n c : Nat) (zs : List Int) (w : World) (hz : n ≤ zs.length) (hbig : n ≤ 9223372036854775807) (hcap : n ≤ c) (hc : ∀ j, j < zs.length → w.cell? ⟨b, off + j, none⟩ = some (.int .i64 (zs.getD j 0))) (hf : ∀ j, j < n → w.frozen? ⟨b, off + j, none⟩ = false) :
    Calls Try.prog 123 #[.slice (some ⟨b, off, none⟩) n c] w fun e w' => e = .returned (.slice (some ⟨b, off, none⟩) (Lib.compact (zs.take n)).length c) ∧ ∃ q, w' = (w.drewN q).setCells b off ((Lib.compact (zs.take n) ++ List.replicate (n - (Lib.compact (zs.take n)).length) 0).map (Value.int .i64)) := Any.slices_Compact_int_cells sh_laysNm220 b off n c zs w hz hbig hcap hc hf
open Go.RowKit Go.Sort in
theorem sh_Sort_none (p : Option Addr) (cap : Nat) (w : World) :
    Calls Try.prog 122 #[.slice p 0 cap] w fun e w' => e = .returned (.tuple #[]) ∧ w' = w := Any.slices_Sort_int_none sh_lays189 p cap w
open Go.RowKit Go.Lib in
theorem sh_Equal_lens (a1 a2 : Option Addr) (n c m d : Nat) (w : World) (hnm : n ≠ m) :
    Calls Try.prog 87 #[.slice a1 n c, .slice a2 m d] w fun e w' => e = .returned (.bool false) ∧ w' = w := Any.slices_Equal_int_lens sh_lays111 a1 a2 n c m d w hnm
end Go.Proofs.Ytafceieenhogpaa
namespace Go.Proofs.Ytafceieenhogpaa
open Go.RowKit Go.Sort

theorem Gr.drawn (w : World) (q : Nat) : Gr w (w.drewN q) := (Gr.refl w).drewN q

theorem equalI (A B : Option Addr) (c d : Nat) (a b : List Int) (w : World) (hA : Is w A a) (hB : Is w B b) (hla : a.length ≤ 9223372036854775807) (hlb : b.length ≤ 9223372036854775807) :
    Calls Try.prog 87 #[.slice A a.length c, .slice B b.length d] w (Rt w (.bool (decide (a = b)))) := by
  by_cases hn : a.length = b.length
  · by_cases h0 : a.length = 0
    · have : a = [] := List.eq_nil_of_length_eq_zero h0
      subst this
      have : b = [] := List.eq_nil_of_length_eq_zero (by simp at hn; omega)
      subst this
      exact (sh_Equal_empty A B c 0 d w (by simp)).mono fun e w' ⟨h1, h2⟩ => ⟨h1, by rw [h2]; exact Gr.refl w⟩
    · obtain ⟨b1, o1, rfl, r1⟩ := hA.opened (by omega)
      obtain ⟨b2, o2, rfl, r2⟩ := hB.opened (by omega)
      refine (sh_Equal b1 o1 a.length c b2 o2 b.length d a b w (Nat.le_refl _) (Nat.le_refl _) hla hlb (fun j hj => ?_) (fun j hj => ?_)).mono ?_
      · rw [r1 j a[j] (List.getElem?_eq_getElem hj)]; simp [hj]
      · rw [r2 j b[j] (List.getElem?_eq_getElem hj)]; simp [hj]
      · rintro e w' ⟨rfl, ⟨q, rfl⟩⟩
        refine ⟨?_, Gr.drawn w q⟩
        rw [List.take_length, List.take_length]
        congr 2
        rw [Bool.eq_iff_iff]; simp
  · refine (sh_Equal_lens A B a.length c b.length d w hn).mono ?_
    rintro e w' ⟨rfl, rfl⟩
    refine ⟨?_, Gr.refl _⟩
    have : ¬ a = b := fun h => hn (by rw [h])
    simp [this]

def goesB (a b : Bn) : Bool := decide (a.y1 = b.y0 ∧ a.E = b.E)

set_option maxHeartbeats 1000000 in
theorem goesOn1 (p q : BW) (w : World) (hp : p.ok w) (hq : q.ok w) (hlp : p.E.length ≤ 9223372036854775807) (hlq : q.E.length ≤ 9223372036854775807) :
    Calls Try.prog 49 #[.agg #[.int .i64 p.y0, .int .i64 p.y1, .slice p.A p.E.length p.c], .agg #[.int .i64 q.y0, .int .i64 q.y1, .slice q.A q.E.length q.c]] w (Rt w (.bool (goesB p.bn q.bn))) := by
  by_cases h : p.y1 = q.y0
  · have hb : goesB p.bn q.bn = decide (p.E = q.E) := by unfold goesB; simp [BW.bn, h]
    rw [hb]
    have HB := Lib.hid hb
    clear hb
    have h1 : (p.y1 == q.y0) = true := by simpa using h
    replace h := Lib.hid h
    go_enter Try.func49, Try.ntmps49
    go_wp2_with fail
    refine (equalI _ _ _ _ _ _ _ (hp.2.bl (((Bl.refl w).alloc _).alloc _)) (hq.2.bl (((Bl.refl w).alloc _).alloc _)) hlp hlq).mono ?_
    rintro e W1 ⟨rfl, g1⟩
    go_wp2
    go_ret
    exact ⟨rfl, (((Gr.refl w).alloc _).alloc _).trans g1⟩
  · have hb : goesB p.bn q.bn = false := by unfold goesB; simp [BW.bn, h]
    rw [hb]
    have h1 : (p.y1 == q.y0) = false := by simpa using h
    go_enter Try.func49, Try.ntmps49
    go_wp2
    go_ret
    exact ⟨rfl, ((Gr.refl w).alloc _).alloc _⟩

end Go.Proofs.Ytafceieenhogpaa
namespace Go.Proofs.Ytafceieenhogpaa
open Go.RowKit Go.Sort

/-- The bands, and one below them. -/
def addL (l : List Bn) (b : Bn) : List Bn :=
  match l[l.length - 1]? with
  | some t => if goesB t b = true then l.set (l.length - 1) ⟨t.y0, b.y1, t.E⟩ else l ++ [b]
  | none => l ++ [b]

/-- Bands that a call owns, with their edges. -/
def OwBs (w : World) (B : Nat) (A : Option Addr) (c : Nat) (l : List BW) : Prop := OwB w B A c (l.map BW.bv) ∧ ∀ r ∈ l, OwI w B r.A r.c r.E
theorem OwBs.bl {w w' : World} {B : Nat} {A : Option Addr} {c : Nat} {l : List BW} (h : OwBs w B A c l) (g : Bl w w') : OwBs w' B A c l := ⟨h.1.bl g, fun r hr => (h.2 r hr).bl g⟩
theorem own_ne {w : World} {B B' g g' c c' : Nat} {l : List BV} {E : List Int} (h : OwB w B (some ⟨g, 0, none⟩) c l) (h' : OwI w B' (some ⟨g', 0, none⟩) c' E) : g ≠ g' := by
  rintro rfl
  rcases h.2 with ⟨h1, _⟩ | ⟨x, cap, cur, h1, _, h3, _⟩
  · injection h1 with h1; cases h1
  · rcases h'.2 with ⟨h1', _⟩ | ⟨x', cap', cur', h1', _, h3', _⟩
    · injection h1' with h1'; cases h1'
    · injection h1 with a b c
      injection a with a
      injection a with a
      injection h1' with a' b' c'
      injection a' with a'
      injection a' with a'
      subst a a'
      rw [h3] at h3'
      injection h3' with h3'
      injection h3' with _ h4
      exact absurd h4 (by decide)
/-- A row of ints stays when the row of bands turns. -/
theorem OwI.far {w w' : World} {B B' c c' : Nat} {A A' : Option Addr} {l : List BV} {E : List Int} (h' : OwI w B' A' c' E) (h : OwB w B A c l) (g : w.grownBy w' (A.map (·.block))) : OwI w' B' A' c' E := by
  rcases h'.addr with ⟨rfl, _, _⟩ | ⟨g', rfl, _⟩
  · exact h'.grown g (.inl rfl)
  · refine h'.grown g (.inr ?_)
    rcases h.addr with ⟨rfl, _, _⟩ | ⟨g0, rfl, _⟩
    · simp
    · intro he; simp at he; exact own_ne h h' he.symm

def AddQ (w : World) (B : Nat) (l : List BW) (b : BW) (e : Ending) (w' : World) : Prop :=
  ∃ (A : Option Addr) (c : Nat) (l' : List BW), e = .returned (.slice A l'.length c) ∧ OwBs w' B A c l' ∧ l'.map BW.bn = addL (l.map BW.bn) b.bn ∧ Below B w w'

theorem addL_nil (b : Bn) : addL [] b = [b] := rfl
theorem addL_snoc (l : List Bn) (t b : Bn) : addL (l ++ [t]) b = if goesB t b = true then l ++ [⟨t.y0, b.y1, t.E⟩] else l ++ [t] ++ [b] := by
  unfold addL
  simp

theorem OwBs.app {w w2 w' : World} {B c c2 : Nat} {A A2 : Option Addr} {l : List BW} {b : BW} (G : Bl w w2) (h : OwBs w2 B A c l) (hb : OwI w2 B b.A b.c b.E) (own2 : OwB w' B A2 c2 (l.map BW.bv ++ [b.bv])) (ap2 : Apd w2 w' A A2) (hB : B ≤ w.heap.size) :
    OwBs w' B A2 c2 (l ++ [b]) ∧ Below B w w' := by
  refine ⟨⟨by rw [List.map_append]; exact own2, fun r hr => ?_⟩, ?_⟩
  · rw [List.mem_append, List.mem_singleton] at hr
    rcases hr with hr | rfl
    · exact (h.2 r hr).far h.1 ap2.1
    · exact hb.far h.1 ap2.1
  · refine Below.grown (Below.mono G hB) ap2.1 (Nat.le_trans hB G.size) ?_
    intro k hk
    rcases h.1.lies with rfl | ⟨k', rfl, h1, _⟩
    · cases hk
    · simp at hk; omega

set_option maxHeartbeats 4000000 in
theorem add1 (A : Option Addr) (c : Nat) (l : List BW) (b : BW) (w : World) (B : Nat) (h : OwBs w B A c l) (hb : OwI w B b.A b.c b.E) (hB : B ≤ w.heap.size) (hl : l.length ≤ 1000000) (hE : ∀ r ∈ l, r.E.length ≤ 9000000) (hbE : b.E.length ≤ 9000000) :
    Calls Try.prog 115 #[.slice A l.length c, .agg #[.int .i64 b.y0, .int .i64 b.y1, .slice b.A b.E.length b.c]] w (AddQ w B l b) := by
  have hone : b.bv.one := rfl
  rcases List.eq_nil_or_concat l with rfl | ⟨l, t, rfl⟩
  · have ow := h.1
    go_enter Try.func115, Try.ntmps115
    go_wp2
    refine wp_region_quiet_grown (by assumption) (by kernel_rfl) ?_
    repeat (first | go_big_quiet_step (fail) | quiet_step (fail))
    refine wpQuiet_nil ?_
    intro W g8
    replace g8 : Gr _ W := g8
    have bx := (At.new w #[.int .i64 b.y0, .int .i64 b.y1, .slice b.A b.E.length b.c] 92).gr g8
    have G := ((Bl.refl w).alloc (.cells #[.int .i64 b.y0, .int .i64 b.y1, .slice b.A b.E.length b.c] 92)).gr g8
    have k0 := bx.cell
    clear g8
    have sz := G.size
    have ow3 := (ow.bl G).bl ((Bl.refl W).alloc (.cells #[.int .i64 b.y0, .int .i64 b.y1, .slice b.A b.E.length b.c] 92))
    go_wp2_with (at_builtin; refine wp_app_b rfl (.tmp 27) (.tmp 29) rfl A c [] rfl B ow3 W.heap.size b.bv 1 rfl (At.new _ _ _) hone (by simp) (by simp; omega) ?_; intro A2 c2 w2 own2 ap2)
    go_ret
    have G2 := (G.alloc (.cells #[.int .i64 b.y0, .int .i64 b.y1, .slice b.A b.E.length b.c] 92))
    obtain ⟨q1, q2⟩ := OwBs.app (l := []) (b := b) G2 ⟨ow3, by simp⟩ (hb.bl G2) own2 ap2 hB
    exact ⟨A2, c2, [] ++ [b], by simp, q1, by simp [addL_nil], q2⟩
  · rw [List.concat_eq_append] at *
    obtain ⟨ow, oe⟩ := h
    obtain ⟨g, rfl, hg1, hg2⟩ : ∃ g, A = some ⟨g, 0, none⟩ ∧ B ≤ g ∧ g < w.heap.size := by
      rcases ow.addr with ⟨_, _, h0⟩ | h0
      · simp at h0
      · exact h0
    obtain ⟨k, hk⟩ : ∃ k, k = l.length := ⟨_, rfl⟩
    have hn : (l ++ [t]).length = k + 1 := by simp [hk]
    have hkt : ((l ++ [t]).map BW.bv)[k]? = some t.bv := by subst hk; simp
    have ok_t : t.ok w := ⟨(oe t (by simp)).cap, (oe t (by simp)).is⟩
    have ok_b : b.ok w := ⟨hb.cap, hb.is⟩
    have hlt : t.E.length ≤ 9000000 := hE t (by simp)
    have G0 := (Bl.refl w).alloc (.cells #[.int .i64 b.y0, .int .i64 b.y1, .slice b.A b.E.length b.c] 92)
    have bx0 := At.new w #[.int .i64 b.y0, .int .i64 b.y1, .slice b.A b.E.length b.c] 92
    have kb := bx0.cells
    have E := fun n os => ((ow.row.bl ((G0.drewN n).grow os)) k t.bv hkt)
    simp only [Nat.zero_add] at E
    have E1 := fun n os => (E n os).1
    have E2 := fun n os => (E n os).2.1
    have E3 := fun n os => (E n os).2.2
    clear E
    simp only [BW.bv] at E1 E2 E3
    have c1 : ∀ n os, Calls Try.prog 49 #[.agg #[.int .i64 t.y0, .int .i64 t.y1, .slice t.A t.E.length t.c], .agg #[.int .i64 b.y0, .int .i64 b.y1, .slice b.A b.E.length b.c]] _ _ := fun n os => goesOn1 t b (Go.Sort.grow (World.drewN (w.alloc (.cells #[.int .i64 b.y0, .int .i64 b.y1, .slice b.A b.E.length b.c] 92)) n) os) (ok_t.bl ((G0.drewN n).grow os)) (ok_b.bl ((G0.drewN n).grow os)) (by omega) (by omega)
    have hkl : k ≤ 1000000 := by simp at hl; omega
    by_cases hgo : goesB t.bn b.bn = true
    · rw [hgo] at c1
      rw [hn]
      replace hgo := Lib.hid hgo
      replace hn := Lib.hid hn
      replace hk := Lib.hid hk
      replace hkt := Lib.hid hkt
      go_enter Try.func115, Try.ntmps115
      go_wp2
      refine wp_region_quiet_grown (by assumption) (by kernel_rfl) ?_
      repeat (first | go_big_quiet_step ((go_at_call 49; exact Calls.grown (c1 _ _))) | quiet_step ((go_at_call 49; exact Calls.grown (c1 _ _))))
      refine wpQuiet_nil ?_
      intro W g8
      replace g8 : Gr _ W := g8
      have bx := bx0.gr g8
      have G := G0.gr g8
      clear g8 E1 E2 E3 kb c1 G0 bx0
      have k0 := bx.cell
      have ow3 := ow.bl G
      obtain ⟨e1, e2, e3⟩ := ow3.row k t.bv hkt.out
      simp only [Nat.zero_add] at e1 e2 e3
      have f0 := ow3.free
      have sz := G.size
      go_wp2
      go_ret
      have st := World.ownsRow.stored (j := k * 3 + 1) (u := .int .i64 b.y1) ow3
      have hset := cB_set ((l ++ [t]).map BW.bv) k t.bv (BV.mk t.y0 b.y1 t.bv.v) 1 (.int .i64 b.y1) hkt.out (by omega) rfl
      refine ⟨some ⟨g, 0, none⟩, c, l ++ [⟨t.y0, b.y1, t.E, t.A, t.c⟩], ?_, ⟨?_, ?_⟩, ?_, ?_⟩
      · show Ending.returned (.slice _ (k + 1) c) = _
        simp [hk.out]
      · have hm : (l ++ [⟨t.y0, b.y1, t.E, t.A, t.c⟩] : List BW).map BW.bv = ((l ++ [t]).map BW.bv).set k (BV.mk t.y0 b.y1 t.bv.v) := by
          rw [hk.out]; simp [BW.bv]
        unfold OwB
        rw [hm, hset, List.length_set]
        exact st.1
      · intro r hr
        rw [List.mem_append, List.mem_singleton] at hr
        rcases hr with hr | rfl
        · exact ((oe r (by simp [hr])).bl G).far ow3 st.2
        · exact ((oe t (by simp)).bl G).far ow3 st.2
      · rw [List.map_append, List.map_append]
        show _ = addL (_ ++ [t.bn]) b.bn
        rw [addL_snoc, if_pos hgo.out]
        rfl
      · exact Below.grown (Below.mono G hB) st.2 (Nat.le_trans hB G.size) (fun k' hk' => by injection hk' with hk'; omega)
    · simp only [Bool.not_eq_true] at hgo
      rw [hgo] at c1
      rw [hn]
      replace hgo := Lib.hid hgo
      replace hn := Lib.hid hn
      replace hk := Lib.hid hk
      replace hkt := Lib.hid hkt
      go_enter Try.func115, Try.ntmps115
      go_wp2
      refine wp_region_quiet_grown (by assumption) (by kernel_rfl) ?_
      repeat (first | go_big_quiet_step ((go_at_call 49; exact Calls.grown (c1 _ _))) | quiet_step ((go_at_call 49; exact Calls.grown (c1 _ _))))
      refine wpQuiet_nil ?_
      intro W g8
      replace g8 : Gr _ W := g8
      have bx := bx0.gr g8
      have G := G0.gr g8
      clear g8 E1 E2 E3 kb c1 G0 bx0
      have k0 := bx.cell
      have sz := G.size
      have hl2 : ((l ++ [t]).map BW.bv).length = k + 1 := by simp [hk.out]
      replace hl2 := Lib.hid hl2
      have ow3 := (ow.bl G).bl ((Bl.refl W).alloc (.cells #[.int .i64 b.y0, .int .i64 b.y1, .slice b.A b.E.length b.c] 92))
      go_wp2_with (at_builtin; refine wp_app_b rfl (.tmp 27) (.tmp 29) rfl (some ⟨g, 0, none⟩) c ((l ++ [t]).map BW.bv) (by rw [hl2.out]; rfl) B ow3 W.heap.size b.bv 1 rfl (At.new _ _ _) hone (by rw [hl2.out]; omega) (by simp; omega) ?_; intro A2 c2 w2 own2 ap2)
      go_ret
      have G2 := (G.alloc (.cells #[.int .i64 b.y0, .int .i64 b.y1, .slice b.A b.E.length b.c] 92))
      obtain ⟨q1, q2⟩ := OwBs.app (l := l ++ [t]) (b := b) G2 ⟨ow3, fun r hr => (oe r hr).bl G2⟩ (hb.bl G2) own2 ap2 hB
      refine ⟨A2, c2, l ++ [t] ++ [b], by simp, q1, ?_, q2⟩
      rw [List.map_append, List.map_append]
      show _ = addL (_ ++ [t.bn]) b.bn
      rw [addL_snoc, if_neg (by rw [hgo.out]; simp)]
      rfl

end Go.Proofs.Ytafceieenhogpaa
namespace Go.Proofs.Ytafceieenhogpaa
open Go.RowKit Go.Sort

theorem cu_inv (d : Array Int) (hs : ∀ i j, i ≤ j → j < d.size → d[i]! ≤ d[j]!) : ∀ m, m ≤ d.size → Inc (Lib.compactUpTo d m) ∧ (∀ x ∈ Lib.compactUpTo d m, 0 < m ∧ x ≤ d[m - 1]!) ∧ (∀ x, x ∈ Lib.compactUpTo d m ↔ ∃ j, j < m ∧ d[j]! = x)
  | 0, _ => by refine ⟨?_, ?_, ?_⟩ <;> simp [Lib.compactUpTo, Inc]
  | m + 1, hm => by
    obtain ⟨h1, h2, h3⟩ := cu_inv d hs m (by omega)
    rw [Lib.compactUpTo_succ]
    by_cases hk : Lib.keeps d m = true
    · rw [if_pos hk]
      have hlt : ∀ x ∈ Lib.compactUpTo d m, x < d[m]! := by
        intro x hx
        obtain ⟨q1, q2⟩ := h2 x hx
        have q3 := hs (m - 1) m (by omega) (by omega)
        have q4 : d[m]! ≠ d[m - 1]! := by
          simp [Lib.keeps] at hk
          rcases hk with hk | hk
          · omega
          · exact hk
        omega
      refine ⟨List.pairwise_append.2 ⟨h1, by simp, fun x hx y hy => by rw [List.mem_singleton] at hy; subst hy; exact hlt x hx⟩, ?_, ?_⟩
      · intro x hx
        rw [List.mem_append, List.mem_singleton] at hx
        refine ⟨by omega, ?_⟩
        rcases hx with hx | rfl
        · have := hlt x hx; simp; omega
        · simp
      · intro x
        rw [List.mem_append, List.mem_singleton, h3]
        constructor
        · rintro (⟨j, q1, q2⟩ | rfl)
          · exact ⟨j, by omega, q2⟩
          · exact ⟨m, by omega, rfl⟩
        · rintro ⟨j, q1, q2⟩
          by_cases hj : j = m
          · subst hj; exact .inr q2.symm
          · exact .inl ⟨j, by omega, q2⟩
    · rw [if_neg hk, List.append_nil]
      have hk' : 0 < m ∧ d[m]! = d[m - 1]! := by
        simp [Lib.keeps] at hk; exact ⟨by omega, hk.2⟩
      refine ⟨h1, fun x hx => ?_, fun x => ?_⟩
      · obtain ⟨q1, q2⟩ := h2 x hx
        have q3 := hs (m - 1) m (by omega) (by omega)
        simp; omega
      · rw [h3]
        constructor
        · rintro ⟨j, q1, q2⟩; exact ⟨j, by omega, q2⟩
        · rintro ⟨j, q1, q2⟩
          by_cases hj : j = m
          · subst hj; exact ⟨j - 1, by omega, by rw [← hk'.2, q2]⟩
          · exact ⟨j, by omega, q2⟩
def sortI (zs : List Int) : List Int := zs.mergeSort fun x y => decide (x ≤ y)
theorem sortI_mem (zs : List Int) (x : Int) : x ∈ sortI zs ↔ x ∈ zs := List.mem_mergeSort
theorem sortI_len (zs : List Int) : (sortI zs).length = zs.length := List.length_mergeSort _
theorem sortI_le (zs : List Int) : (sortI zs).Pairwise (· ≤ ·) := by
  have := List.pairwise_mergeSort (le := fun (x y : Int) => decide (x ≤ y)) (by intro a b c; simp; omega) (by intro a b; simp; omega) zs
  exact this.imp (by intro a b; simp)
theorem compact_sorted (zs : List Int) : Inc (Lib.compact (sortI zs)) ∧ (∀ x, x ∈ Lib.compact (sortI zs) ↔ x ∈ zs) ∧ (Lib.compact (sortI zs)).length ≤ zs.length := by
  have hp := sortI_le zs
  have hs : ∀ i j, i ≤ j → j < (sortI zs).toArray.size → (sortI zs).toArray[i]! ≤ (sortI zs).toArray[j]! := by
    intro i j hij hj
    simp at hj
    have q1 : (sortI zs).toArray[i]! = (sortI zs)[i] := by simp [getElem!_pos, show i < (sortI zs).length by omega]
    have q2 : (sortI zs).toArray[j]! = (sortI zs)[j] := by simp [getElem!_pos, hj]
    rw [q1, q2]
    rcases Nat.lt_or_ge i j with h | h
    · exact List.pairwise_iff_getElem.1 hp i j (by omega) hj h
    · have : i = j := by omega
      subst this; exact Int.le_refl _
  obtain ⟨h1, _, h3⟩ := cu_inv (sortI zs).toArray hs (sortI zs).length (by simp)
  refine ⟨h1, fun x => ?_, ?_⟩
  · show x ∈ Lib.compactUpTo _ _ ↔ _
    rw [h3, ← sortI_mem zs x, List.mem_iff_getElem]
    constructor
    · rintro ⟨j, q1, q2⟩
      exact ⟨j, q1, by rw [← q2]; simp [getElem!_pos, q1]⟩
    · rintro ⟨j, q1, q2⟩
      exact ⟨j, q1, by rw [← q2]; simp [getElem!_pos, q1]⟩
  · have := Lib.compact_length_le (sortI zs)
    rw [sortI_len] at this; exact this

/-- Sort, and Compact, of a row of ints that the call owns. -/
theorem sort1 (A : Option Addr) (c : Nat) (E : List Int) (w : World) (B : Nat) (h : OwI w B A c E) (hl : E.length ≤ 100000000) (hB : B ≤ w.heap.size) :
    Calls Try.prog 122 #[.slice A E.length c] w fun e w' => e = .returned (.tuple #[]) ∧ OwI w' B A c (sortI E) ∧ Below B w w' := by
  by_cases h0 : E.length = 0
  · have : E = [] := List.eq_nil_of_length_eq_zero h0
    subst this
    refine (sh_Sort_none A c w).mono ?_
    rintro e w' ⟨rfl, rfl⟩
    exact ⟨rfl, by rw [show sortI [] = [] from by simp [sortI]]; exact h, Below.refl _ _⟩
  · obtain ⟨g, cap, h1, h2, h3, h4, h5, h6, h7⟩ := Lib.holds_of_ownsRow (enc := Value.int .i64) (zs := E) h (by intro h; injection h with h h'; omega)
    injection h1 with h1 h1' h1''
    subst h1 h1''
    refine (sh_Sort g 0 c E w h7 h3 (by omega)).mono ?_
    rintro e w' ⟨rfl, n, os, rfl⟩
    have q := Lib.ownsRow_putRow (enc := Value.int .i64) (q := n) (k := E.length) (ys := sortI E) h (sortI_len E) (Nat.le_refl _)
    have q1 : OwI (putRow (Value.int .i64) (Sort.ahead w n) g 0 (sortI E).toArray) B (some ⟨g, 0, none⟩) c (sortI E) := by
      unfold OwI
      rw [sortI_len]
      rw [List.take_of_length_le (by rw [sortI_len]; exact Nat.le_refl _)] at q
      exact q
    exact ⟨rfl, q1.bl ((Bl.refl _).grow os), Below.trans (Lib.below_putRow (Below.refl _ _) h2) (Below.mono ((Bl.refl _).grow os) (by simp [putRow, mapBlock, Sort.ahead]; omega))⟩
theorem compact1 (A : Option Addr) (c : Nat) (E : List Int) (w : World) (B : Nat) (h : OwI w B A c E) (hl : E.length ≤ 100000000) (hB : B ≤ w.heap.size) :
    Calls Try.prog 123 #[.slice A E.length c] w fun e w' => e = .returned (.slice A (Lib.compact E).length c) ∧ OwI w' B A c (Lib.compact E) ∧ Below B w w' := by
  by_cases h0 : E.length = 0
  · have : E = [] := List.eq_nil_of_length_eq_zero h0
    subst this
    refine (sh_Compact_empty A c w).mono ?_
    rintro e w' ⟨rfl, rfl⟩
    exact ⟨rfl, h, Below.refl _ _⟩
  · obtain ⟨g, cap, h1, h2, h3, h4, h5, h6, h7⟩ := Lib.holds_of_ownsRow (enc := Value.int .i64) (zs := E) h (by intro h; injection h with h h'; omega)
    injection h1 with h1 h1' h1''
    subst h1 h1''
    have hcl := Lib.compact_length_le E
    refine (sh_Compact g 0 c E w h7 (by omega) h4).mono ?_
    rintro e w' ⟨rfl, n, rfl⟩
    refine ⟨rfl, ?_, Lib.below_putRow (Below.refl _ _) h2⟩
    have q := Lib.ownsRow_putRow (enc := Value.int .i64) (q := n) (k := (Lib.compact E).length) (ys := Lib.compact E ++ List.replicate (E.length - (Lib.compact E).length) 0) h (by simp; omega) hcl
    rw [List.take_left] at q
    unfold OwI
    exact q

end Go.Proofs.Ytafceieenhogpaa
namespace Go.Proofs.Ytafceieenhogpaa
open Go.RowKit Go.Sort

def ysL : List Bn → List Int
  | [] => []
  | b :: l => b.y0 :: b.y1 :: ysL l
theorem ysL_app : ∀ l m : List Bn, ysL (l ++ m) = ysL l ++ ysL m
  | [], m => rfl
  | b :: l, m => by show _ :: _ :: ysL (l ++ m) = _; rw [ysL_app l m]; rfl
theorem ysL_len : ∀ l : List Bn, (ysL l).length = 2 * l.length
  | [] => rfl
  | b :: l => by show (ysL l).length + 1 + 1 = 2 * (l.length + 1); rw [ysL_len l]; omega
theorem ysL_mem : ∀ (l : List Bn) (y : Int), y ∈ ysL l ↔ ∃ b ∈ l, y = b.y0 ∨ y = b.y1
  | [], y => by simp [ysL]
  | b :: l, y => by
    show y ∈ b.y0 :: b.y1 :: ysL l ↔ _
    simp only [List.mem_cons, ysL_mem l y]
    constructor
    · rintro (h | h | ⟨b', h1, h2⟩)
      · exact ⟨b, .inl rfl, .inl h⟩
      · exact ⟨b, .inl rfl, .inr h⟩
      · exact ⟨b', .inr h1, h2⟩
    · rintro ⟨b', rfl | h1, h2⟩
      · rcases h2 with h2 | h2
        · exact .inl h2
        · exact .inr (.inl h2)
      · exact .inr (.inr ⟨b', h1, h2⟩)
def ysK (p q : List Bn) : Nat → List Int
  | 0 => []
  | 1 => ysL p
  | _ => ysL p ++ ysL q
/-- What heights tells. -/
structure Hts (p q : List Bn) (ys : List Int) : Prop where
  inc : Inc ys
  mem : ∀ y, y ∈ ys ↔ ∃ b, (b ∈ p ∨ b ∈ q) ∧ (y = b.y0 ∨ y = b.y1)
  len : ys.length ≤ 2 * (p.length + q.length)

set_option maxRecDepth 100000 in
set_option maxHeartbeats 8000000 in
theorem heights1 (A B : Option Addr) (c d : Nat) (p q : List BW) (w : World) (hp : Bs w A p) (hq : Bs w B q) (hlp : p.length ≤ 1000000) (hlq : q.length ≤ 1000000) :
    Calls Try.prog 113 #[.slice A p.length c, .slice B q.length d] w (RN w (Hts (p.map BW.bn) (q.map BW.bn))) := by
  go_enter Try.func113, Try.ntmps113
  go_wp2
  go_loopw [5, 14] (fun v i wr => ∃ (k : Nat) (A' : Option Addr) (c' : Nat) (E : List Int), k ≤ 2 ∧ v = .slice A' E.length c' ∧ i = .int .i64 k ∧ OwI wr w.heap.size A' c' E ∧ Hid (E = ysK (p.map BW.bn) (q.map BW.bn) k) ∧ Bl w wr ∧
      At wr w.heap.size #[.slice A p.length c, .slice B q.length d] 87) (fun _ i _ => 2 - (intOf i).toNat)
  case atStart => exact ⟨0, none, 0, [], by omega, rfl, rfl, OwI.nil _ _, Lib.hid rfl, (Bl.refl w).alloc _, At.new _ _ _⟩
  case round =>
    obtain ⟨k, A', c', E, hk, rfl, rfl, own, hE, G, bx⟩ := hrel
    have hkl : E.length ≤ 4000000 := by
      rw [hE.out]
      match k, hk with
      | 0, _ => simp [ysK]
      | 1, _ => simp [ysK, ysL_len]; omega
      | 2, _ => simp [ysK, ysL_len]; omega
    by_cases hlt : k < 2
    · obtain ⟨Ai, ci, li, hBi, hcell, hli, hstep⟩ : ∃ (Ai : Option Addr) (ci : Nat) (li : List BW), Bs w Ai li ∧ wr.cell? ⟨w.heap.size, k, none⟩ = some (.slice Ai li.length ci) ∧ li.length ≤ 1000000 ∧
          ysK (p.map BW.bn) (q.map BW.bn) (k + 1) = ysK (p.map BW.bn) (q.map BW.bn) k ++ ysL (li.map BW.bn) := by
        have h1 : k = 0 ∨ k = 1 := by omega
        rcases h1 with rfl | rfl
        · exact ⟨A, c, p, hp, bx.cell 0, hlp, rfl⟩
        · exact ⟨B, d, q, hq, bx.cell 1, hlq, rfl⟩
      replace hstep := Lib.hid hstep
      have hkb : decide ((k : Int) < 2) = true := by simp; omega
      have szo := G.size
      obtain ⟨wo, hwo⟩ : ∃ wo : World, wo = wr := ⟨_, rfl⟩
      subst hwo
      go_wp2
      go_loopw [5, 20] (fun v i wr => ∃ (j : Nat) (A2 : Option Addr) (c2 : Nat) (E2 : List Int), j ≤ li.length ∧ v = .slice A2 E2.length c2 ∧ i = .int .i64 j ∧ OwI wr w.heap.size A2 c2 E2 ∧ Hid (E2 = E ++ ysL ((li.take j).map BW.bn)) ∧ Bl w wr ∧
          At wr w.heap.size #[.slice A p.length c, .slice B q.length d] 87) (fun _ i _ => li.length - (intOf i).toNat)
      case atStart => exact ⟨0, A', c', E, by omega, rfl, rfl, own, Lib.hid (by simp [ysL]), G, bx⟩
      case round =>
        obtain ⟨j, A2, c2, E2, hj, rfl, rfl, own2, hE2, G2, bx2⟩ := hrel
        by_cases hlt2 : j < li.length
        · obtain ⟨r, hr⟩ := list_at hlt2
          obtain ⟨b, off, rfl, hrow⟩ := hBi.opened (by omega)
          obtain ⟨e1, e2, e3⟩ := (hrow.bl G2).at_ hr
          have hl2 : E2.length ≤ 9000000 := by
            rw [hE2.out, List.length_append, ysL_len, List.length_map, List.length_take]; omega
          replace hr := Lib.hid hr
          have sz2 := G2.size
          have G3 := G2.alloc (.cells #[.int .i64 r.y0, .int .i64 r.y1, .slice r.A r.E.length r.c] 92)
          have own3 := own2.bl ((Bl.refl wr).alloc (.cells #[.int .i64 r.y0, .int .i64 r.y1, .slice r.A r.E.length r.c] 92))
          have bx3 := bx2.alloc (.cells #[.int .i64 r.y0, .int .i64 r.y1, .slice r.A r.E.length r.c] 92)
          have ne1 : some w.heap.size ≠ A2.map (·.block) := OwI.ne_at own2 bx2 (by decide)
          go_wp2_with (at_builtin; refine wp_app_ii rfl (.tmp 24) (.tmp 29) rfl A2 c2 E2 rfl w.heap.size (own3.bl ((Bl.refl _).alloc _)) (wr.heap.size + 1) r.y0 r.y1 2 rfl (At.new2 _ _ _ _) (by omega) (by simp; omega) ?_; intro A3 c3 w3 own4 ap3)
          go_roundw
          case rel =>
            refine ⟨j + 1, A3, c3, E2 ++ [r.y0, r.y1], by omega, by simp, by go_num, own4, Lib.hid ?_, ap3.bl (G3.alloc _) (own3.bl ((Bl.refl _).alloc _)).lies (Nat.le_refl _), (bx3.alloc _).grown ap3.1 ne1⟩
            rw [List.take_add_one, hr.out, hE2.out, List.map_append, ysL_app, List.append_assoc]; rfl
          case measure => simp [intOf]; omega
        · have hj2 : j = li.length := by omega
          go_wp2
          go_roundw
          case rel =>
            refine ⟨k + 1, A2, c2, E2, by omega, rfl, by go_num, own2, Lib.hid ?_, G2, bx2⟩
            rw [hE2.out, hstep.out, hj2, List.take_length, ← hE.out]
          case measure => simp [intOf]; omega
    · obtain rfl : k = 2 := by omega
      have sz := G.size
      obtain ⟨qi, qm, ql⟩ := compact_sorted E
      have hfin : Hts (p.map BW.bn) (q.map BW.bn) (Lib.compact (sortI E)) := by
        refine ⟨qi, fun y => ?_, ?_⟩
        · rw [qm, hE.out]
          show y ∈ ysL _ ++ ysL _ ↔ _
          rw [List.mem_append, ysL_mem, ysL_mem]
          constructor
          · rintro (⟨b, h1, h2⟩ | ⟨b, h1, h2⟩)
            · exact ⟨b, .inl h1, h2⟩
            · exact ⟨b, .inr h1, h2⟩
          · rintro ⟨b, h1 | h1, h2⟩
            · exact .inl ⟨b, h1, h2⟩
            · exact .inr ⟨b, h1, h2⟩
        · refine Nat.le_trans ql ?_
          rw [hE.out]
          show (ysL _ ++ ysL _).length ≤ _
          rw [List.length_append, ysL_len, ysL_len]; omega
      replace hfin := Lib.hid hfin
      clear qi qm ql
      have hsl := Lib.hid (sortI_len E)
      go_wp2_with fail
      refine (sort1 _ _ _ _ _ own (by omega) sz).mono ?_
      rintro e W1 ⟨rfl, own1, g1⟩
      have sz1 := g1.size
      have hsE : E.length = (sortI E).length := hsl.out.symm
      go_wp2_with fail
      refine (compact1 _ _ _ _ _ own1 (by omega) (by omega)).mono ?_
      rintro e W2 ⟨rfl, own2, g2⟩
      go_wp2
      go_ret
      exact ⟨A', c', _, rfl, own2, hfin.out, Below.trans (Below.trans G g1) g2⟩

end Go.Proofs.Ytafceieenhogpaa
