/-
  What is proved: what Write of package image does where it does not refuse. what Read of package image does where it does not refuse, and where it does.
-/
import Derived.Test.YtkaaagggbclofaaZz4
import Derived.Test.YtkaaagggbclofaaZz5
import Derived.Outline
namespace Go.Proofs.Ytkaaagggbclofaa
open Go.RowKit Go.Sort Go.Shelf

attribute [local go_sem] Oper.semAt_some

/-- Rows y of W colors, from x0 on, m of each, that get the colors C, one by one. -/
def wrS (W x0 m : Nat) (st : List Int × List Int) (ys : List Nat) : List Int × List Int := ys.foldl (fun st y => (putRun st.1 (y * W + x0) (st.2.take m), st.2.drop m)) st
theorem wrS_snoc (W x0 m : Nat) (st : List Int × List Int) (ys : List Nat) (y : Nat) : wrS W x0 m st (ys ++ [y]) = (putRun (wrS W x0 m st ys).1 (y * W + x0) ((wrS W x0 m st ys).2.take m), (wrS W x0 m st ys).2.drop m) := by simp [wrS]
theorem wrS_two (W x0 m : Nat) : ∀ (ys : List Nat) (st : List Int × List Int), (wrS W x0 m st ys).2 = st.2.drop (m * ys.length)
  | [], st => by simp [wrS]
  | y :: l, st => by
    show (wrS W x0 m (putRun st.1 (y * W + x0) (st.2.take m), st.2.drop m) l).2 = _
    rw [wrS_two W x0 m l]
    dsimp only
    rw [List.drop_drop, List.length_cons, Nat.mul_add, Nat.mul_one, Nat.add_comm]
theorem wrS_len (W x0 m : Nat) : ∀ (ys : List Nat) (st : List Int × List Int), (wrS W x0 m st ys).1.length = st.1.length
  | [], st => rfl
  | y :: l, st => by
    show (wrS W x0 m (putRun st.1 (y * W + x0) (st.2.take m), st.2.drop m) l).1.length = _
    rw [wrS_len W x0 m l, putRun_len]
/-- The colors of bytes. -/
def colsL (bs : List Int) (n : Nat) : List Int := (List.range n).map (colAt bs)
theorem colsL_len (bs : List Int) (n : Nat) : (colsL bs n).length = n := by simp [colsL]
theorem colsL_at {bs : List Int} {n k : Nat} (h : k < n) : (colsL bs n)[k]? = some (colAt bs k) := by simp [colsL, h]

/-- The box of the bytes that are left: k colors of them are gone. -/
def Left (w : World) (b g off n cb k : Nat) : Prop := ∃ A : Option Addr, At w b #[.slice A (n - 4 * k) (cb - 4 * k)] 32 ∧ (4 * k < n → A = some ⟨g, off + 4 * k, none⟩)
theorem ownLeft {β : Type} (B0 b g off n cb : Nat) (f : β → Nat) : OwnFrom B0 (fun s W => Left W b g off n cb (f s)) := fun _ X _ _ hs hg hr => by
  obtain ⟨A, h1, h2⟩ := hs
  exact ⟨A, h1.kept hg (fun e => by obtain ⟨_, o, ho, hc⟩ := hr b e.symm; rw [show X.heap[b]? = _ from h1] at ho; cases ho; cases hc), h2⟩
theorem ownRow {β : Type} (B0 g off : Nat) (bs : List Int) : OwnFrom B0 (fun (_ : β) W => RowN .u8 W g off bs) := fun _ _ _ _ hs hg hr i x hi => cell_kept (hs i x hi) hg (fun r e => (hr r e).2)

theorem then_block {id : Nat} {K : Act → World → Prop} {Q : Exit → Act → World → Prop} : ∀ e a w, Exit.then K (fun _ _ _ => False) e a w → Exit.inBlock id (Exit.then K Q) e a w := by
  intro e a w h
  cases e <;> first | exact h | exact h.elim

set_option maxRecDepth 100000 in
set_option maxHeartbeats 8000000 in
theorem iwrite1 {pm pc W H : Nat} {L : List Int} (w : World) (hI : Img w pm pc W H L) (x0 y0 x1 y1 : Nat) (hx : x0 < x1) (hw : x1 ≤ W) (hy : y0 < y1) (hh : y1 ≤ H) (A : Option Addr) (bs : List Int) (cb : Nat) (hA : Ns .u8 w A bs) (h8 : ∀ x ∈ bs, U8 x) (hcb : bs.length ≤ cb) (hc2 : cb ≤ maxLen)
    (N : Nat) (hNN : N = (x1 - x0) * (y1 - y0)) (hn : bs.length = 4 * N) (hok : ∀ j, j < N → mayC (colAt bs j) = true) :
    Calls Try.prog 33 #[.pointer (some ⟨pm, 0, none⟩), .agg #[.int .i64 x0, .int .i64 y0, .int .i64 x1, .int .i64 y1], .slice A bs.length cb] w
      (fun e w' => e = .returned (.int .i64 0) ∧ w.grownBy w' (some pc) ∧ Img w' pm pc W H (wrS W x0 (x1 - x0) (L, colsL bs N) (List.range' y0 (y1 - y0))).1) := by
  unfold maxLen at hc2
  have ch := fun (V : World) (h : Img V pm pc W H L) => hasAll1 V h x0 y0 x1 y1
  rw [show (!emptyB (x0 : Int) y0 x1 y1 && coversB 0 0 W H x0 y0 x1 y1) = true by simp [emptyB, coversB]; omega] at ch
  have hmay : mayB x0 y0 x1 y1 = true := by have := hI.w2; have := hI.h2; simp [mayB]; omega
  have cA := fun V => area1 x0 y0 x1 y1 V hmay
  have hNa : areaI x0 y0 x1 y1 = (N : Int) := by unfold areaI; rw [hNN, Int.natCast_mul, Int.natCast_sub (Nat.le_of_lt hx), Int.natCast_sub (Nat.le_of_lt hy)]
  have hN2 : N ≤ 65536 := by
    have := Nat.mul_le_mul (show x1 - x0 ≤ 256 by have := hI.w2; omega) (show y1 - y0 ≤ 256 by have := hI.h2; omega)
    omega
  have hN1 : 0 < N := by rw [hNN]; exact Nat.mul_pos (by omega) (by omega)
  rw [hNa] at cA
  obtain ⟨g, off, rfl, hR⟩ : ∃ g off, A = some ⟨g, off, none⟩ ∧ RowN .u8 w g off bs := by
    rcases hA with hA | hA
    · subst hA; simp at hn; omega
    · exact hA
  clear hA
  have hgpc : g ≠ pc := fun e => by
    obtain ⟨y, hy⟩ := list_at (l := bs) (k := 0) (by omega)
    have h1 := hR 0 y hy
    rw [e, hI.cs.cell (off + 0), cC_get] at h1
    cases hq : L[off + 0]? with
    | none => rw [hq] at h1; cases h1
    | some c => rw [hq] at h1; cases h1
  have hglt : g < w.heap.size := by
    obtain ⟨y, hy⟩ := list_at (l := bs) (k := 0) (by omega)
    exact World.block_lt_of_cell? w _ (hR 0 y hy)
  replace hNN := Lib.hid hNN
  clear hNa hmay
  obtain ⟨n, hnn⟩ : ∃ n, n = bs.length := ⟨_, rfl⟩
  rw [← hnn] at hn hcb ⊢
  replace hnn := Lib.hid hnn
  have hn1 : 4 * (N : Int) ≤ (n : Int) := by omega
  have hn2 : (n : Int) ≤ 4 * (N : Int) := by omega
  have q1 : decide ((n : Int) < 4 * (N : Int)) = false := by simp; omega
  have q2 : decide (4 * (N : Int) < (n : Int)) = false := by simp; omega
  replace hn := Lib.hid hn
  replace hok := Lib.hid hok
  replace h8 := Lib.hid h8
  have hCl := colsL_len bs N
  have mixed : Try.prog.follows .mixedOrders = true := by kernel_rfl
  have R0 := (At.new w #[.int .i64 x0, .int .i64 y0, .int .i64 x1, .int .i64 y1] 31).alloc (.cells #[.slice (some ⟨g, off, none⟩) n cb] 32)
  have S0 := At.newAt (w := w.alloc (.cells #[.int .i64 x0, .int .i64 y0, .int .i64 x1, .int .i64 y1] 31)) (n := w.heap.size + 1) (by simp) #[.slice (some ⟨g, off, none⟩) n cb] 32
  have G0 := ((Gr.refl w).alloc (.cells #[.int .i64 x0, .int .i64 y0, .int .i64 x1, .int .i64 y1] 31)).alloc (.cells #[.slice (some ⟨g, off, none⟩) n cb] 32)
  refine (callsIn_wide (n := 5)).1 ?_
  refine callsIn_of_wp_marks Try.func33 rfl trivial ?_ rfl
  simp only [Try.ntmps33, List.size_toArray, List.length_cons, List.length_nil, Nat.reduceAdd, Nat.reduceSub, Array.replicate_succ, Array.replicate_zero, List.push_toArray, List.append_toArray, List.nil_append, List.cons_append]
  gi_wp2_with fail
  refine ⟨trivial, ?_⟩
  refine (callsIn_wide.2 (ch _ (hI.gr G0))).mono ?_
  rintro e w1 ⟨rfl, g1⟩
  replace R0 := R0.gr g1
  replace S0 := S0.gr g1
  replace G0 := G0.trans g1
  clear g1 ch
  obtain ⟨t0, t1, t2, t3⟩ := cells4 R0
  gi_wp2_with fail
  refine ⟨trivial, ?_⟩
  refine (callsIn_wide.2 (cA _)).mono ?_
  rintro e w2 ⟨rfl, g2⟩
  replace R0 := R0.gr g2
  replace S0 := S0.gr g2
  replace G0 := G0.trans g2
  clear g2 cA t0 t1 t2 t3
  have s0 : w2.cell? ⟨w.heap.size + 1, 0, none⟩ = some (.slice (some ⟨g, off, none⟩) n cb) := S0.cell 0
  gi_wp2_with fail
  have hA2 := hR.gr G0
  gi_loopw [8] (fun i wr => ∃ k : Nat, k ≤ N ∧ i = .int .i64 (4 * k : Nat) ∧ Gr w2 wr) (fun i _ => n - (intOf i).toNat)
  case atStart => exact ⟨0, Nat.zero_le _, rfl, Gr.refl _⟩
  case round =>
    obtain ⟨k, hk, rfl, Gk⟩ := hrel
    have s1 : wr.cell? ⟨w.heap.size + 1, 0, none⟩ = some (.slice (some ⟨g, off, none⟩) n cb) := (S0.gr Gk).cell 0
    by_cases hlt : k < N
    · obtain ⟨j, hj⟩ : ∃ j, j = 4 * k := ⟨_, rfl⟩
      have hjn : j + 3 < n := by omega
      have Ak := hA2.gr Gk
      have hget : ∀ i, i < n → bs[i]? = some (bs.getD i 0) := fun i hi => getD_get (by rw [← hnn.out]; exact hi)
      have mem := fun i (hi : i < n) => getD_mem h8.out (show i < bs.length by rw [← hnn.out]; exact hi)
      have cf := first1 wr g (off + j) (n - j) (cb - j) _ _ _ _ (by omega) (Ak j _ (hget j (by omega))) (by rw [Nat.add_assoc]; exact Ak (j + 1) _ (hget _ (by omega))) (by rw [Nat.add_assoc]; exact Ak (j + 2) _ (hget _ (by omega))) (by rw [Nat.add_assoc]; exact Ak (j + 3) _ (hget _ (by omega))) (mem _ (by omega)) (mem _ (by omega)) (mem _ (by omega)) (mem _ (by omega))
      have hcol : colB (bs.getD j 0) (bs.getD (j + 1) 0) (bs.getD (j + 2) 0) (bs.getD (j + 3) 0) = colAt bs k := by rw [hj]; rfl
      rw [hcol] at cf
      have c32 := colAt_c32 h8.out (k := k) (by rw [← hnn.out]; omega)
      have cm := fun w => cmay1 (colAt bs k) w c32
      rw [hok.out k hlt] at cm
      rw [← hj]
      have hj' := Lib.hid hj
      clear hj mem hcol hget
      gi_wp2_with fail
      refine ⟨trivial, ?_⟩
      refine (callsIn_wide.2 cf).mono ?_
      rintro e w3 ⟨rfl, nq, rfl⟩
      gi_wp2_with fail
      refine ⟨trivial, ?_⟩
      refine (callsIn_wide.2 (cm _)).mono ?_
      rintro e w4 ⟨rfl, g4⟩
      gi_wp2
      go_roundw
      case rel => exact ⟨k + 1, by omega, by have := hj'.out; congr 1; omega, (Gk.drewN _).trans g4⟩
      case measure => have := hj'.out; simp [intOf]; omega
    · obtain rfl : N = k := by omega
      have S1 := S0.gr Gk
      have R1 := R0.gr Gk
      have G1 := G0.trans Gk
      have I1 := hI.gr G1
      obtain ⟨t0, t1, t2, t3⟩ := cells4 R1
      gi_wp2_with fail
      refine ⟨trivial, ?_⟩
      refine (callsIn_wide.2 (spans1 _ _ _ _ _ _)).mono ?_
      rintro e w5 ⟨rfl, rfl⟩
      clear t0 t1 t2 t3 s1 s0
      obtain ⟨V, hV⟩ : ∃ V : World, V = wr := ⟨_, rfl⟩
      subst hV
      have bm := (At.new V #[.pointer (some ⟨pm, 0, none⟩)] 48).alloc (.cells #[.int .i64 x0, .int .i64 y0, .int .i64 x1, .int .i64 y1] 31)
      have br := At.newAt (w := V.alloc (.cells #[.pointer (some ⟨pm, 0, none⟩)] 48)) (n := V.heap.size + 1) (by simp) #[.int .i64 x0, .int .i64 y0, .int .i64 x1, .int .i64 y1] 31
      have g5 := (((Gr.refl V).alloc (.cells #[.pointer (some ⟨pm, 0, none⟩)] 48)).alloc (.cells #[.int .i64 x0, .int .i64 y0, .int .i64 x1, .int .i64 y1] 31))
      have I5 := I1.gr g5
      have S5 := S1.gr g5
      have G5 := (G1.trans g5).bl
      have A5 := (hA2.gr Gk).gr g5
      have hs5 : ((V.alloc (.cells #[.pointer (some ⟨pm, 0, none⟩)] 48)).alloc (.cells #[.int .i64 x0, .int .i64 y0, .int .i64 x1, .int .i64 y1] 31)).heap.size = V.heap.size + 2 := by simp
      have hlt4 := hI.hd.lt
      have hlt5 := hI.cs.lt
      have hlt6 := S1.lt
      gi_wp2
      obtain ⟨U, hU⟩ : ∃ U, U = (V.alloc (.cells #[.pointer (some ⟨pm, 0, none⟩)] 48)).alloc (.cells #[.int .i64 x0, .int .i64 y0, .int .i64 x1, .int .i64 y1] 31) := ⟨_, rfl⟩
      rw [← hU] at bm br I5 S5 A5 G5 hs5 ⊢
      clear hU g5 G1 I1 S1 R1
      have hL0 : Left U (w.heap.size + 1) g off n cb 0 := ⟨some ⟨g, off, none⟩, S5, fun _ => rfl⟩
      refine wpIn_rangeFunc_ownG rfl (by omega) (gf := 55) (lb := #[.pointer (some ⟨V.heap.size + 1, 0, none⟩), .pointer (some ⟨V.heap.size, 0, none⟩)]) rfl trivial (enters_of Try.func55 (by kernel_rfl) rfl)
        (spansStops (5 - 1) (by omega) V.heap.size (V.heap.size + 1) _ _ pm pc W H L.length L.length x0 x1 y0 y1 (fun _ => hx) hw (Nat.le_of_lt hy) hh U I5.hd (Nat.le_refl _) I5.len I5.w2 I5.h2 bm br)
        (fun h k => h.trans k) (Keep3.book (by omega) (by omega) (by omega)) (Below.refl _ _) (fun _ => rfl)
        (fun pre V' => Img V' pm pc W H (wrS W x0 (x1 - x0) (L, colsL bs N) (pre.map (·.1))).1 ∧ Left V' (w.heap.size + 1) g off n cb ((x1 - x0) * pre.length) ∧ RowN .u8 V' g off bs ∧ w.grownBy V' (some pc) ∧ U.heap.size ≤ V'.heap.size)
        (fun _ _ _ => False)
        ((ownImg _ _ _ _ _ _).and ((ownLeft _ _ _ _ _ _ _).and ((ownRow _ _ _ _).and ((ownBy _ (by omega)).and (fun _ X Y row hs hg hr => Nat.le_trans hs hg.size)))))
        (fun _ _ _ _ _ hs _ _ => hs)
        ⟨I5, hL0, A5, G5.byr _, Nat.le_refl _⟩
        (fun x => { tmps := #[.pointer (some ⟨pm, 0, none⟩), .agg #[.int .i64 x0, .int .i64 y0, .int .i64 x1, .int .i64 y1], .slice (some ⟨g, off, none⟩) n cb, undef, .pointer (some ⟨w.heap.size, 0, none⟩), .pointer (some ⟨w.heap.size + 1, 0, none⟩), u6, .int .i64 (4 * (N : Int)), .int .i64 (4 * (N : Int)), undef, .slice (some ⟨pc, x.1 * W + x0, none⟩) (x1 - x0) (L.length - (x.1 * W + x0)), undef, .pointer (some ⟨pm, 0, none⟩), .agg #[.int .i64 x0, .int .i64 y0, .int .i64 x1, .int .i64 y1], .bool true, .bool false, .agg #[.int .i64 x0, .int .i64 y0, .int .i64 x1, .int .i64 y1], .int .i64 N, .int .i64 (4 * (N : Int)), .bool false, .slice (some ⟨g, off, none⟩) n cb, .int .i64 n, .int .i64 (4 * (N : Int)), .bool false, .bool false, .slice (some ⟨g, off, none⟩) n cb, .int .i64 n, .int .i64 (4 * (N : Int)), .bool false, .int .i64 (4 * (N : Int)), .slice (some ⟨g, off, none⟩) n cb, .int .i64 n, .bool false, u33, u34, u35, u36, u37, u38, u39, u40, .pointer (some ⟨pm, 0, none⟩), .agg #[.int .i64 x0, .int .i64 y0, .int .i64 x1, .int .i64 y1], .func (.func 55) #[] #[.pointer (some ⟨V.heap.size + 1, 0, none⟩), .pointer (some ⟨V.heap.size, 0, none⟩)], .int .i64 (x.1 : Int), .slice (some ⟨pc, x.1 * W + x0, none⟩) (x1 - x0) (L.length - (x.1 * W + x0)), undef, undef, undef, undef, undef, undef, undef, undef, undef, undef, undef, undef, undef], defers := [] }) ?assign ?body ?done ?stop
      case assign =>
        intro l x W' K' hK'
        dsimp only [rowV]
        gi_wp2
        exact hK'
      case body =>
        rintro l pre x W' ⟨hi, hlf, hrw, hb, hsz⟩ hlen
        have hf := wrS_snoc W x0 (x1 - x0) (L, colsL bs N) (pre.map (·.1)) x.1
        rw [show pre.map (·.1) ++ [x.1] = (pre ++ [x]).map (·.1) by rw [List.map_append]; rfl] at hf
        have hC2 := wrS_two W x0 (x1 - x0) (pre.map (·.1)) (L, colsL bs N)
        dsimp only at hC2
        rw [List.length_map] at hC2
        rw [hC2] at hf
        have hFl : (wrS W x0 (x1 - x0) (L, colsL bs N) (pre.map (·.1))).1.length = L.length := wrS_len _ _ _ _ _
        have hp : x.1 * W + x0 + (x1 - x0) ≤ L.length := by
          have := row_of (show x1 - 1 < W by omega) x.2
          rw [← hI.len] at this
          omega
        have hle := area_le hI.w2 hI.h2
        rw [← hI.len] at hle
        have hK0 : (x1 - x0) * pre.length + (x1 - x0) ≤ N := by
          have h1 := Nat.mul_le_mul_left (x1 - x0) (show pre.length + 1 ≤ y1 - y0 by omega)
          rw [← hNN.out, Nat.mul_add, Nat.mul_one] at h1
          exact h1
        have hpre : (x1 - x0) * (pre ++ [x]).length = (x1 - x0) * pre.length + (x1 - x0) := by simp [Nat.mul_add]
        generalize (wrS W x0 (x1 - x0) (L, colsL bs N) (pre.map (·.1))).1 = F at *
        generalize (x1 - x0) * pre.length = K0 at *
        obtain ⟨n1, hn1'⟩ : ∃ n, n = L.length := ⟨_, rfl⟩
        rw [← hn1'] at hp hle hFl ⊢
        generalize x.1 * W + x0 = p at *
        obtain ⟨m, hm'⟩ : ∃ m, m = x1 - x0 := ⟨_, rfl⟩
        rw [← hm'] at hf hp hK0 hpre ⊢
        obtain ⟨cc, hcc⟩ : ∃ cc, cc = n1 - p := ⟨_, rfl⟩
        have hmc : m ≤ cc := by omega
        rw [← hcc]
        have hDat : ∀ j, j < m → ((colsL bs N).drop K0)[j]? = some (colAt bs (K0 + j)) := fun j hj => by rw [List.getElem?_drop]; exact colsL_at (by omega)
        generalize (colsL bs N).drop K0 = D at *
        have hD0 : D.take 0 = [] := rfl
        clear hcc hm' hC2
        replace hf := Lib.hid hf
        replace hn1' := Lib.hid hn1'
        replace hFl := Lib.hid hFl
        replace hDat := Lib.hid hDat
        replace hpre := Lib.hid hpre
        gi_wp2
        gi_loopw [48, 11] (fun i _ wr => ∃ j : Nat, j ≤ m ∧ i = .int .i64 j ∧ Img wr pm pc W H (putRun F p (D.take j)) ∧ Left wr (w.heap.size + 1) g off n cb (K0 + j) ∧ RowN .u8 wr g off bs ∧ w.grownBy wr (some pc) ∧ KeepsOthers W' wr ∧ Keep3 pm V.heap.size (V.heap.size + 1) W' wr) (fun i _ _ => m - (intOf i).toNat)
        case atStart => exact ⟨0, Nat.zero_le _, rfl, hi, hlf, hrw, hb, KeepsOthers.refl _, Keep3.refl _ _ _ _⟩
        case round =>
          obtain ⟨j, hj, rfl, Ij, Lj, Rj, bj, oj, kj⟩ := hrel
          by_cases hlt : j < m
          · obtain ⟨old, hold⟩ : ∃ old, (putRun F p (D.take j))[p + j]? = some old := list_at (by rw [putRun_len, hFl.out]; omega)
            have c1 := Ij.at hold
            have f1 := Ij.cs.free (p + j)
            obtain ⟨A, hAt, hAd⟩ := Lj
            have hk4 : 4 * (K0 + j) + 3 < n := by have := hn.out; omega
            obtain rfl := hAd (by omega)
            obtain ⟨k4, hk4e⟩ : ∃ k, k = 4 * (K0 + j) := ⟨_, rfl⟩
            rw [← hk4e] at hAt hAd
            obtain ⟨r, hr⟩ : ∃ r, r = n - k4 := ⟨_, rfl⟩
            obtain ⟨c', hc'⟩ : ∃ c, c = cb - k4 := ⟨_, rfl⟩
            rw [← hr, ← hc'] at hAt
            have hr4 : 4 ≤ r := by omega
            have hrc : r ≤ c' := by omega
            have hcm : c' ≤ 9223372036854775807 := by omega
            have hget : ∀ i, i < n → bs[i]? = some (bs.getD i 0) := fun i hi => getD_get (by rw [← hnn.out]; exact hi)
            have mem := fun i (hi : i < n) => getD_mem h8.out (show i < bs.length by rw [← hnn.out]; exact hi)
            have cf := fun V' (gv : Gr wr V') => first1 V' g (off + k4) r c' _ _ _ _ hr4 ((Rj.gr gv) k4 _ (hget k4 (by omega))) (by rw [Nat.add_assoc]; exact (Rj.gr gv) (k4 + 1) _ (hget _ (by omega))) (by rw [Nat.add_assoc]; exact (Rj.gr gv) (k4 + 2) _ (hget _ (by omega))) (by rw [Nat.add_assoc]; exact (Rj.gr gv) (k4 + 3) _ (hget _ (by omega))) (mem _ (by omega)) (mem _ (by omega)) (mem _ (by omega)) (mem _ (by omega))
            have hcol : colB (bs.getD k4 0) (bs.getD (k4 + 1) 0) (bs.getD (k4 + 2) 0) (bs.getD (k4 + 3) 0) = colAt bs (K0 + j) := by rw [hk4e]; rfl
            rw [hcol] at cf
            have hsn : putRun F p (D.take (j + 1)) = (putRun F p (D.take j)).set (p + j) (colAt bs (K0 + j)) := by
              have hlen' : (D.take j).length = j := by
                rw [List.length_take]
                have := (List.getElem?_eq_some_iff.1 (hDat.out j hlt)).1
                omega
              rw [List.take_add_one, hDat.out j hlt]
              have := putRun_snoc (D.take j) F p (colAt bs (K0 + j))
              rw [hlen'] at this
              exact this
            replace hsn := Lib.hid hsn
            generalize colAt bs (K0 + j) = v at *
            clear hcol mem hget hold
            replace hk4e := Lib.hid hk4e
            replace hr := Lib.hid hr
            replace hc' := Lib.hid hc'
            clear hAd
            gi_wp2
            rename_i K2 hK2
            have hri : (4 : Int) ≤ (r : Int) := by omega
            have q0 := Ij
            have z0 := hAt.cell 0
            have z1 := hAt.free 0
            have hVs := hlt6
            have hws := hsz
            have lay : ∀ nq : Nat, ((wr.drew.drewN nq).setCell ⟨pc, p + j, none⟩ (.int .u32 v)).cell? ⟨w.heap.size + 1, 0, none⟩ = some (.slice (some ⟨g, off + k4, none⟩) r c') ∧ ((wr.drew.drewN nq).setCell ⟨pc, p + j, none⟩ (.int .u32 v)).frozen? ⟨w.heap.size + 1, 0, none⟩ = false ∧ (wr.drew.drewN nq).cell? ⟨w.heap.size + 1, 0, none⟩ = some (.slice (some ⟨g, off + k4, none⟩) r c') ∧ (wr.drew.drewN nq).cell? ⟨pc, p + j, none⟩ = some (.int .u32 old) ∧ (wr.drew.drewN nq).frozen? ⟨pc, p + j, none⟩ = false := by
              intro nq
              have y := (hAt.drew.drewN nq)
              have y2 := y.far (p := ⟨pc, p + j, none⟩) (by simp; omega) (.int .u32 v)
              exact ⟨y2.cell 0, y2.free 0, y.cell 0, c1, f1⟩
            have hleft : ∀ (Y : World) (A : Option Addr), At Y (w.heap.size + 1) #[.slice A (r - 4) (c' - 4)] 32 → (¬ c' = 4 → A = some ⟨g, off + k4 + 4, none⟩) → Left Y (w.heap.size + 1) g off n cb (K0 + (j + 1)) := by
              intro Y A h1 h2
              have e1 := hk4e.out
              have e2 := hr.out
              have e3 := hc'.out
              refine ⟨A, ?_, fun h => ?_⟩
              · rw [show n - 4 * (K0 + (j + 1)) = r - 4 by omega, show cb - 4 * (K0 + (j + 1)) = c' - 4 by omega]
                exact h1
              · rw [h2 (by omega), show off + k4 + 4 = off + 4 * (K0 + (j + 1)) by omega]
            have fin : ∀ (nq : Nat) (sv : Value), Img (((wr.drewN nq).setCell ⟨pc, p + j, none⟩ (.int .u32 v)).setCell ⟨w.heap.size + 1, 0, none⟩ sv) pm pc W H (putRun F p (D.take (j + 1))) ∧ At (((wr.drewN nq).setCell ⟨pc, p + j, none⟩ (.int .u32 v)).setCell ⟨w.heap.size + 1, 0, none⟩ sv) (w.heap.size + 1) #[sv] 32 ∧
                RowN .u8 (((wr.drewN nq).setCell ⟨pc, p + j, none⟩ (.int .u32 v)).setCell ⟨w.heap.size + 1, 0, none⟩ sv) g off bs ∧ w.grownBy (((wr.drewN nq).setCell ⟨pc, p + j, none⟩ (.int .u32 v)).setCell ⟨w.heap.size + 1, 0, none⟩ sv) (some pc) ∧
                KeepsOthers W' (((wr.drewN nq).setCell ⟨pc, p + j, none⟩ (.int .u32 v)).setCell ⟨w.heap.size + 1, 0, none⟩ sv) ∧ Keep3 pm V.heap.size (V.heap.size + 1) W' (((wr.drewN nq).setCell ⟨pc, p + j, none⟩ (.int .u32 v)).setCell ⟨w.heap.size + 1, 0, none⟩ sv) := by
              intro nq sv
              have gq : Gr wr (wr.drewN nq) := (Gr.refl wr).drewN nq
              have gS := by_set (p := ⟨w.heap.size + 1, 0, none⟩) (by_refl ((wr.drewN nq).setCell ⟨pc, p + j, none⟩ (.int .u32 v)) (some (w.heap.size + 1))) sv
              have gP := by_set (p := ⟨pc, p + j, none⟩) (by_refl (wr.drewN nq) (some pc)) (.int .u32 v)
              have hpmc := hI.ne
              refine ⟨?_, ?_, ?_, ?_, ?_, ?_⟩
              · rw [hsn.out]
                exact ((Ij.gr gq).set (p + j) v).kept gS (by simp; omega) (by simp; omega)
              · have := ((hAt.drewN nq).far (p := ⟨pc, p + j, none⟩) (by simp; omega) (.int .u32 v)).put 0 sv
                simpa using this
              · exact ((Rj.gr gq).kept gP (by simp; omega)).kept gS (by simp; omega)
              · exact by_new (by_set (p := ⟨pc, p + j, none⟩) (by_gr bj gq) _) (p := ⟨w.heap.size + 1, 0, none⟩) (by simp) _
              · exact ((oj.trans (KeepsOthers.of_grownBy (gq.by none) (fun _ _ h => by cases h))).trans (KeepsOthers.setCell _ _ _)).trans (KeepsOthers.setCell _ _ _)
              · exact kj.trans ⟨(Below.heap_setCell _ _ _ _ (by simp; omega)).trans (Below.heap_setCell _ _ _ _ (by simp; exact hpmc)), (Below.heap_setCell _ _ _ _ (by simp; omega)).trans (Below.heap_setCell _ _ _ _ (by simp; omega)), (Below.heap_setCell _ _ _ _ (by simp; omega)).trans (Below.heap_setCell _ _ _ _ (by simp; omega))⟩
            refine wpIn_mono (Q := Exit.then K2 (fun _ _ _ => False)) ?_ then_block
            refine wpIn_region_round (fun _ => True) mixed (by kernel_rfl) (fun ⟨_, _, h⟩ => h) ?_
            refine wpAnyH_take (i := 0) (v := ?_) rfl (by kernel_rfl) (by kernel_rfl) (by kernel_rfl) (fun _ _ _ h => h) (Or.inl ⟨by rfl, ?hy0⟩) trivial ?rest0
            case hy0 => intro w' _; go_simp; (try rw [if_pos hri]); (try with_reducible rfl)
            try simp only [Act.put, List.setIfInBounds_toArray]
            refine wpAnyH_take (i := 1) (v := ?_) rfl (by kernel_rfl) (by kernel_rfl) (by kernel_rfl) (fun _ _ _ h => h) (Or.inl ⟨by rfl, ?hy1⟩) trivial ?rest1
            case hy1 => intro w' _; go_simp; (try rw [if_pos hri]); (try with_reducible rfl)
            try simp only [Act.put]
            refine wpAnyH_ready (rs := [2, 4]) (by kernel_rfl) (by simp) (AllReadyH.cons rfl (fun K9 hK9 => ?_) (AllReadyH.cons rfl (fun K9 hK9 => ?_) AllReadyH.nil))
            · go_simp
              refine hK9.out _ _ trivial (fun _ => ?_)
              clear hK9 K9
              try simp only [Act.put, List.setIfInBounds_toArray, List.set_cons_zero, List.set_cons_succ]
              refine wpAnyH_ready (rs := [3, 4]) (by kernel_rfl) (by simp) (AllReadyH.cons rfl (fun K9 hK9 => ?_) (AllReadyH.cons rfl (fun K9 hK9 => ?_) AllReadyH.nil))
              · go_simp
                refine (cf _ (Gr.refl wr).drew).mono ?_
                rintro e w3 ⟨rfl, nq, rfl⟩
                obtain ⟨zb, zf, zc, zd, ze⟩ := lay nq
                dsimp only
                refine hK9.out _ _ trivial (fun _ => ?_)
                clear hK9 K9
                try simp only [Act.put, List.setIfInBounds_toArray, List.set_cons_zero, List.set_cons_succ]
                refine wpAnyH_take (i := 6) (v := ?_) rfl (by kernel_rfl) (by kernel_rfl) (by kernel_rfl) (fun _ _ _ h => h) (Or.inl ⟨by rfl, ?hy61⟩) trivial ?rest61
                case hy61 => intro w' _; go_simp; (try rw [if_pos hri]); (try with_reducible rfl)
                try simp only [Act.put, List.setIfInBounds_toArray]
                refine wpAnyH_ready (rs := [4, 7]) (by kernel_rfl) (by simp) (AllReadyH.cons rfl (fun K9 hK9 => ?_) (AllReadyH.cons rfl (fun K9 hK9 => ?_) AllReadyH.nil))
                · go_simp
                  refine hK9.out _ _ trivial (fun _ => ?_)
                  clear hK9 K9
                  try simp only [Act.put, List.setIfInBounds_toArray, List.set_cons_zero, List.set_cons_succ]
                  refine wpAnyH_take (i := 5) (v := ?_) rfl (by kernel_rfl) (by kernel_rfl) (by kernel_rfl) (fun _ _ _ h => h) (Or.inl ⟨by rfl, ?hy52⟩) trivial ?rest52
                  case hy52 => intro w' _; go_simp; (try rw [if_pos hri]); (try with_reducible rfl)
                  try simp only [Act.put, List.setIfInBounds_toArray]
                  refine wpAnyH_ready (rs := [7]) (by kernel_rfl) (by simp) (AllReadyH.cons rfl (fun K9 hK9 => ?_) AllReadyH.nil)
                  go_simp
                  refine hK9.out _ _ trivial (fun _ => ?_)
                  clear hK9 K9
                  try simp only [Act.put, List.setIfInBounds_toArray, List.set_cons_zero, List.set_cons_succ]
                  refine wpAnyH_ready (rs := [8]) (by kernel_rfl) (by simp) (AllReadyH.cons rfl (fun K9 hK9 => ?_) AllReadyH.nil)
                  go_simp
                  refine hK9.out _ _ trivial (fun _ => ?_)
                  clear hK9 K9
                  try simp only [Act.put, List.setIfInBounds_toArray, List.set_cons_zero, List.set_cons_succ]
                  refine wpAnyH_done (by kernel_rfl) ?_ _
                  refine hK2 _ _ ?_
                  gi_wp2
                  go_roundw
                  case rel => exact ⟨j + 1, by omega, by simp, (fin (1 + nq) _).1, hleft _ _ (fin (1 + nq) _).2.1 (by intro h; simp [h]), (fin (1 + nq) _).2.2⟩
                  case measure => simp [intOf]; omega
                · go_simp
                  refine hK9.out _ _ trivial (fun _ => ?_)
                  clear hK9 K9
                  try simp only [Act.put, List.setIfInBounds_toArray, List.set_cons_zero, List.set_cons_succ]
                  refine wpAnyH_ready (rs := [4]) (by kernel_rfl) (by simp) (AllReadyH.cons rfl (fun K9 hK9 => ?_) AllReadyH.nil)
                  go_simp
                  refine hK9.out _ _ trivial (fun _ => ?_)
                  clear hK9 K9
                  try simp only [Act.put, List.setIfInBounds_toArray, List.set_cons_zero, List.set_cons_succ]
                  refine wpAnyH_take (i := 5) (v := ?_) rfl (by kernel_rfl) (by kernel_rfl) (by kernel_rfl) (fun _ _ _ h => h) (Or.inl ⟨by rfl, ?hy53⟩) trivial ?rest53
                  case hy53 => intro w' _; go_simp; (try rw [if_pos hri]); (try with_reducible rfl)
                  try simp only [Act.put, List.setIfInBounds_toArray]
                  refine wpAnyH_ready (rs := [8]) (by kernel_rfl) (by simp) (AllReadyH.cons rfl (fun K9 hK9 => ?_) AllReadyH.nil)
                  go_simp
                  refine hK9.out _ _ trivial (fun _ => ?_)
                  clear hK9 K9
                  try simp only [Act.put, List.setIfInBounds_toArray, List.set_cons_zero, List.set_cons_succ]
                  refine wpAnyH_done (by kernel_rfl) ?_ _
                  refine hK2 _ _ ?_
                  gi_wp2
                  go_roundw
                  case rel => exact ⟨j + 1, by omega, by simp, (fin (1 + nq) _).1, hleft _ _ (fin (1 + nq) _).2.1 (by intro h; simp [h]), (fin (1 + nq) _).2.2⟩
                  case measure => simp [intOf]; omega
              · go_simp
                refine hK9.out _ _ trivial (fun _ => ?_)
                clear hK9 K9
                try simp only [Act.put, List.setIfInBounds_toArray, List.set_cons_zero, List.set_cons_succ]
                refine wpAnyH_take (i := 5) (v := ?_) rfl (by kernel_rfl) (by kernel_rfl) (by kernel_rfl) (fun _ _ _ h => h) (Or.inl ⟨by rfl, ?hy54⟩) trivial ?rest54
                case hy54 => intro w' _; go_simp; (try rw [if_pos hri]); (try with_reducible rfl)
                try simp only [Act.put, List.setIfInBounds_toArray]
                refine wpAnyH_ready (rs := [3]) (by kernel_rfl) (by simp) (AllReadyH.cons rfl (fun K9 hK9 => ?_) AllReadyH.nil)
                go_simp
                refine (cf _ (Gr.refl wr).drew).mono ?_
                rintro e w3 ⟨rfl, nq, rfl⟩
                obtain ⟨zb, zf, zc, zd, ze⟩ := lay nq
                dsimp only
                refine hK9.out _ _ trivial (fun _ => ?_)
                clear hK9 K9
                try simp only [Act.put, List.setIfInBounds_toArray, List.set_cons_zero, List.set_cons_succ]
                refine wpAnyH_take (i := 6) (v := ?_) rfl (by kernel_rfl) (by kernel_rfl) (by kernel_rfl) (fun _ _ _ h => h) (Or.inl ⟨by rfl, ?hy65⟩) trivial ?rest65
                case hy65 => intro w' _; go_simp; (try rw [if_pos hri]); (try with_reducible rfl)
                try simp only [Act.put, List.setIfInBounds_toArray]
                refine wpAnyH_ready (rs := [7]) (by kernel_rfl) (by simp) (AllReadyH.cons rfl (fun K9 hK9 => ?_) AllReadyH.nil)
                go_simp
                refine hK9.out _ _ trivial (fun _ => ?_)
                clear hK9 K9
                try simp only [Act.put, List.setIfInBounds_toArray, List.set_cons_zero, List.set_cons_succ]
                refine wpAnyH_ready (rs := [8]) (by kernel_rfl) (by simp) (AllReadyH.cons rfl (fun K9 hK9 => ?_) AllReadyH.nil)
                go_simp
                refine hK9.out _ _ trivial (fun _ => ?_)
                clear hK9 K9
                try simp only [Act.put, List.setIfInBounds_toArray, List.set_cons_zero, List.set_cons_succ]
                refine wpAnyH_done (by kernel_rfl) ?_ _
                refine hK2 _ _ ?_
                gi_wp2
                go_roundw
                case rel => exact ⟨j + 1, by omega, by simp, (fin (1 + nq) _).1, hleft _ _ (fin (1 + nq) _).2.1 (by intro h; simp [h]), (fin (1 + nq) _).2.2⟩
                case measure => simp [intOf]; omega
            · go_simp
              refine hK9.out _ _ trivial (fun _ => ?_)
              clear hK9 K9
              try simp only [Act.put, List.setIfInBounds_toArray, List.set_cons_zero, List.set_cons_succ]
              refine wpAnyH_take (i := 5) (v := ?_) rfl (by kernel_rfl) (by kernel_rfl) (by kernel_rfl) (fun _ _ _ h => h) (Or.inl ⟨by rfl, ?hy56⟩) trivial ?rest56
              case hy56 => intro w' _; go_simp; (try rw [if_pos hri]); (try with_reducible rfl)
              try simp only [Act.put, List.setIfInBounds_toArray]
              refine wpAnyH_ready (rs := [2]) (by kernel_rfl) (by simp) (AllReadyH.cons rfl (fun K9 hK9 => ?_) AllReadyH.nil)
              go_simp
              refine hK9.out _ _ trivial (fun _ => ?_)
              clear hK9 K9
              try simp only [Act.put, List.setIfInBounds_toArray, List.set_cons_zero, List.set_cons_succ]
              refine wpAnyH_ready (rs := [3]) (by kernel_rfl) (by simp) (AllReadyH.cons rfl (fun K9 hK9 => ?_) AllReadyH.nil)
              go_simp
              refine (cf _ (Gr.refl wr).drew).mono ?_
              rintro e w3 ⟨rfl, nq, rfl⟩
              obtain ⟨zb, zf, zc, zd, ze⟩ := lay nq
              dsimp only
              refine hK9.out _ _ trivial (fun _ => ?_)
              clear hK9 K9
              try simp only [Act.put, List.setIfInBounds_toArray, List.set_cons_zero, List.set_cons_succ]
              refine wpAnyH_take (i := 6) (v := ?_) rfl (by kernel_rfl) (by kernel_rfl) (by kernel_rfl) (fun _ _ _ h => h) (Or.inl ⟨by rfl, ?hy67⟩) trivial ?rest67
              case hy67 => intro w' _; go_simp; (try rw [if_pos hri]); (try with_reducible rfl)
              try simp only [Act.put, List.setIfInBounds_toArray]
              refine wpAnyH_ready (rs := [7]) (by kernel_rfl) (by simp) (AllReadyH.cons rfl (fun K9 hK9 => ?_) AllReadyH.nil)
              go_simp
              refine hK9.out _ _ trivial (fun _ => ?_)
              clear hK9 K9
              try simp only [Act.put, List.setIfInBounds_toArray, List.set_cons_zero, List.set_cons_succ]
              refine wpAnyH_ready (rs := [8]) (by kernel_rfl) (by simp) (AllReadyH.cons rfl (fun K9 hK9 => ?_) AllReadyH.nil)
              go_simp
              refine hK9.out _ _ trivial (fun _ => ?_)
              clear hK9 K9
              try simp only [Act.put, List.setIfInBounds_toArray, List.set_cons_zero, List.set_cons_succ]
              refine wpAnyH_done (by kernel_rfl) ?_ _
              refine hK2 _ _ ?_
              gi_wp2
              go_roundw
              case rel => exact ⟨j + 1, by omega, by simp, (fin (1 + nq) _).1, hleft _ _ (fin (1 + nq) _).2.1 (by intro h; simp [h]), (fin (1 + nq) _).2.2⟩
              case measure => simp [intOf]; omega
          · obtain rfl : j = m := by omega
            gi_wp2
            refine ⟨oj.from _, kj, ?_, by rw [hpre.out]; exact Lj, Rj, bj, Nat.le_trans hsz oj.size⟩
            rw [hf.out]
            exact Ij
      case done =>
        rintro D ys W' hD hys ⟨hi, hlf, hrw, hb, hsz⟩ hK'
        gi_wp2
        refine ⟨by simp, .inl ⟨_, _, rfl, run_takeDeferred hK', ?_⟩⟩
        have gP := grownBy_putObj' W' D (.deferred none)
        have hDw : w.heap.size ≤ D := by omega
        refine ⟨_, results_tmp rfl _ _ _, rfl, by_row hb gP hDw, ?_⟩
        rw [← hys]
        exact hi.kept gP (by simp; omega) (by simp; omega)
      case stop =>
        rintro D c pre W' _ _ h _
        exact h.elim

end Go.Proofs.Ytkaaagggbclofaa
namespace Go.Proofs.Ytkaaagggbclofaa
open Go.RowKit Go.Sort Go.Shelf

attribute [local go_sem] Oper.semAt_some

/-- A color's bytes. -/
def px (c : Int) : List Int := [pA c, pR c, pG c, pB c]
/-- The bytes of m colors from place k on. -/
def rowPx (L : List Int) (k m : Nat) : List Int := ((L.drop k).take m).flatMap px
theorem rowPx_zero (L : List Int) (k : Nat) : rowPx L k 0 = [] := by simp [rowPx]
theorem rowPx_succ {L : List Int} {k j : Nat} {c : Int} (h : L[k + j]? = some c) : rowPx L k (j + 1) = rowPx L k j ++ px c := by
  unfold rowPx
  rw [List.take_add_one, List.getElem?_drop, h, List.flatMap_append]
  simp
theorem flat_len : ∀ L : List Int, (L.flatMap px).length = 4 * L.length
  | [] => rfl
  | c :: l => by rw [List.flatMap_cons, List.length_append, flat_len l, List.length_cons]; simp [px]; omega
theorem rowPx_len {L : List Int} {k m : Nat} (h : k + m ≤ L.length) : (rowPx L k m).length = 4 * m := by
  unfold rowPx; rw [flat_len, List.length_take, List.length_drop]; omega
/-- The bytes of rows y of W colors, from x0 up to x1. -/
def readR (W x0 x1 : Nat) (L : List Int) (ys : List Nat) : List Int := ys.flatMap fun y => rowPx L (y * W + x0) (x1 - x0)
theorem readR_snoc (W x0 x1 : Nat) (L : List Int) (ys : List Nat) (y : Nat) : readR W x0 x1 L (ys ++ [y]) = readR W x0 x1 L ys ++ rowPx L (y * W + x0) (x1 - x0) := by simp [readR]
theorem readR_len (W x0 x1 : Nat) (L : List Int) (ys : List Nat) (h : ∀ y ∈ ys, y * W + x0 + (x1 - x0) ≤ L.length) : (readR W x0 x1 L ys).length = 4 * ((x1 - x0) * ys.length) := by
  induction ys with
  | nil => simp [readR]
  | cons y l ih =>
    have e : readR W x0 x1 L (y :: l) = rowPx L (y * W + x0) (x1 - x0) ++ readR W x0 x1 L l := by simp [readR]
    rw [e, List.length_append, ih (fun z hz => h z (by simp [hz])), rowPx_len (h y (by simp)), List.length_cons, Nat.mul_add, Nat.mul_add]
    omega

/-- A row of bytes that the call owns abides the loop's book-keeping. -/
theorem OwN.turn {k : IntKind} {e : TypeId} {X Y : World} {B : Nat} {A : Option Addr} {c : Nat} {L : List Int} {row : Option Nat} (h : OwN k e X B A c L) (g : X.grownBy Y row) (hr : ∀ r, row = some r → ∃ o : Obj, X.heap[r]? = some o ∧ o.isCells = false) : OwN k e Y B A c L := by
  refine h.grown g ?_
  rcases h.2 with ⟨h1, _⟩ | ⟨b, cap, cur, h1, _, h3, _⟩
  · injection h1 with h1; exact .inl h1
  · right
    intro e'
    injection h1 with h1 _ _
    rw [h1] at e'
    obtain ⟨o, ho, hc⟩ := hr b e'.symm
    rw [h3] at ho
    cases ho; cases hc
/-- The box that holds the row. -/
theorem OwN.isCells {k : IntKind} {e : TypeId} {X : World} {B g c : Nat} {L : List Int} (h : OwN k e X B (some ⟨g, 0, none⟩) c L) {o : Obj} (ho : X.heap[g]? = some o) : o.isCells = true := by
  rcases h.2 with ⟨h1, _⟩ | ⟨b, cap, cur, h1, _, h3, _⟩
  · injection h1 with h1; cases h1
  · injection h1 with h1 _ _
    injection h1 with h1
    injection h1 with h1
    subst h1
    rw [h3] at ho
    cases ho; rfl
theorem OwN.cap {k : IntKind} {e : TypeId} {w : World} {B : Nat} {A : Option Addr} {c : Nat} {L : List Int} (h : OwN k e w B A c L) : L.length ≤ c := by
  rcases h.2 with ⟨h1, h2⟩ | ⟨g, cap, cur, h1, _, _, h4, _⟩
  · omega
  · injection h1 with a b c'; omega
theorem by_bl {a b : World} (h : a.grownBy b none) : Bl a b := ⟨h.os, h.tape, h.output, h.size, fun k hk => h.block k hk (by simp)⟩
structure BoxB (w : World) (B b g cap : Nat) (L : List Int) : Prop where
  at_ : At w b #[.slice (some ⟨g, 0, none⟩) L.length cap] 32
  own : OwN .u8 5 w B (some ⟨g, 0, none⟩) cap L
theorem ownBox {β : Type} (B0 B b g cap : Nat) (f : β → List Int) : OwnFrom B0 (fun s W => BoxB W B b g cap (f s)) := fun s X Y row hs hg hr =>
  ⟨hs.at_.kept hg (fun e => by obtain ⟨_, o, ho, hc⟩ := hr b e.symm; rw [show X.heap[b]? = _ from hs.at_] at ho; cases ho; cases hc), hs.own.turn hg (fun r e => (hr r e).2)⟩
theorem BoxB.gr {w w' : World} {B b g cap : Nat} {L : List Int} (h : BoxB w B b g cap L) (k : Gr w w') : BoxB w' B b g cap L := ⟨h.at_.gr k, h.own.gr k⟩
theorem makeY0 (N : Nat) (h : N ≤ 1000000000) (w : World) : (Instr.makeSlice 32 (.int .i64 0) (.int .i64 (N : Int))).run Try.prog w =
    .ok (.slice (some ⟨w.heap.size, 0, none⟩) 0 N) (w.alloc (.cells (madeCells #[.int .u8 0] N) 5)) := by
  obtain ⟨i0, hi, hz0, hz1, hz2⟩ := info_parts infoBy
  have := run_make (P := Try.prog) w 32 5 i0 _ Try.underlying32 hi hz0 .i64 .i64 0 (N : Int) (Int.le_refl _) (by omega) (by rw [hz2]; omega) (by omega)
  rw [this, hz1]
  simp [Value.cells]
theorem madeY0 (N B : Nat) (h : N ≤ 1000000) (w : World) (hB : B ≤ w.heap.size) : OwN .u8 5 (w.alloc (.cells (madeCells #[.int .u8 0] N) 5)) B (some ⟨w.heap.size, 0, none⟩) N [] :=
  World.ownsRow_made w _ N hB (by unfold maxLen; omega) (by rw [size_madeCells, Nat.mul_one])

end Go.Proofs.Ytkaaagggbclofaa
