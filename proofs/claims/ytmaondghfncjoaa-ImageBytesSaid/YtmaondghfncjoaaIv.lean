/-
  What is proved: what Solid of package image tells.
-/
import Derived.Test.YtmaondghfncjoaaIl
namespace Go.Proofs.Ytmaondghfncjoaa
open Go.RowKit Go.Sort Go.Shelf

attribute [local go_sem] Oper.semAt_some

/-- Whether all colors of these rows, from x0 up to x1, are solid. -/
def rowS (L : List Int) (p k : Nat) : Bool := ((L.drop p).take k).all fun c => pA c == 255
def allS (W x0 x1 : Nat) (L : List Int) (ys : List Nat) : Bool := ys.all fun y => rowS L (y * W + x0) (x1 - x0)
theorem rowS_succ {L : List Int} {p k : Nat} {c : Int} (h : L[p + k]? = some c) : rowS L p (k + 1) = (rowS L p k && (pA c == 255)) := by
  unfold rowS
  rw [List.take_add_one, List.getElem?_drop, h]
  simp
theorem rowS_part {L : List Int} {p k m : Nat} (h : k ≤ m) (hf : rowS L p k = false) : rowS L p m = false := by
  unfold rowS at *
  rw [show m = k + (m - k) by omega, List.take_add, List.all_append, hf]; rfl
theorem allS_snoc (W x0 x1 : Nat) (L : List Int) (ys : List Nat) (y : Nat) : allS W x0 x1 L (ys ++ [y]) = (allS W x0 x1 L ys && rowS L (y * W + x0) (x1 - x0)) := by simp [allS]
theorem allS_pre {W x0 x1 : Nat} {L : List Int} {ys zs : List Nat} (h : ys <+: zs) (hf : allS W x0 x1 L ys = false) : allS W x0 x1 L zs = false := by
  obtain ⟨t, rfl⟩ := h
  unfold allS at *
  rw [List.all_append, hf]; rfl

theorem Gr.keeps {w w' : World} (g : Gr w w') : KeepsOthers w w' := ⟨g.size, fun k _ hk _ => (g.below.block k (Array.getElem?_eq_some_iff.1 hk).1).trans hk⟩
theorem Gr.keep3 {w w' : World} (g : Gr w w') {p q r : Nat} (hp : p < w.heap.size) (hq : q < w.heap.size) (hr : r < w.heap.size) : Keep3 p q r w w' := ⟨g.below.block _ hp, g.below.block _ hq, g.below.block _ hr⟩
theorem ownSize {β : Type} (B n : Nat) : OwnFrom B (fun (_ : β) V => n ≤ V.heap.size) := fun _ _ _ _ hs hg _ => Nat.le_trans hs hg.size
theorem bl_of {w w' : World} (h : w.grownBy w' none) : Bl w w' := ⟨h.os, h.tape, h.output, h.size, fun k hk => h.block k hk (by simp)⟩

set_option maxRecDepth 100000 in
set_option maxHeartbeats 4000000 in
theorem solid1 {pm pc W H : Nat} {L : List Int} (w : World) (hI : Img w pm pc W H L) (h32 : ∀ c ∈ L, C32 c) (a b c d : Int) (x0 x1 y0 y1 : Nat) (hcut : cutR a b c d 0 0 W H = ⟨x0, y0, x1, y1⟩) (hx : y0 < y1 → x0 < x1) (hw : x1 ≤ W) (hy : y0 ≤ y1) (hh : y1 ≤ H) :
    Calls Try.prog 24 #[.pointer (some ⟨pm, 0, none⟩), .agg #[.int .i64 a, .int .i64 b, .int .i64 c, .int .i64 d]] w
      (fun e w' => e = .returned (.bool (allS W x0 x1 L (List.range' y0 (y1 - y0)))) ∧ Bl w w') := by
  have cc := fun w => cut1 a b c d 0 0 W H w
  rw [hcut] at cc
  dsimp only at cc
  clear hcut
  have mixed : Try.prog.follows .mixedOrders = true := by kernel_rfl
  refine (callsIn_wide (n := 5)).1 ?_
  refine callsIn_of_wp_marks Try.func24 rfl trivial ?_ rfl
  simp only [Try.ntmps24, List.size_toArray, List.length_cons, List.length_nil, Nat.reduceAdd, Nat.reduceSub, Array.replicate_succ, Array.replicate_zero, List.push_toArray, List.append_toArray, List.nil_append, List.cons_append]
  have g1 := ((Gr.refl w).alloc (.cells #[.int .i64 a, .int .i64 b, .int .i64 c, .int .i64 d] 32)).alloc (.cells #[.bool false] 4)
  have r1 := (At.new w #[.int .i64 a, .int .i64 b, .int .i64 c, .int .i64 d] 32).alloc (.cells #[.bool false] 4)
  have q1 := At.newAt (w := w.alloc (.cells #[.int .i64 a, .int .i64 b, .int .i64 c, .int .i64 d] 32)) (n := w.heap.size + 1) (by simp) #[.bool false] 4
  have I1 := hI.gr g1
  gi_wp2
  rename_i K hK
  obtain ⟨V1, hV1⟩ : ∃ V1, V1 = (w.alloc (.cells #[.int .i64 a, .int .i64 b, .int .i64 c, .int .i64 d] 32)).alloc (.cells #[.bool false] 4) := ⟨_, rfl⟩
  rw [← hV1] at g1 r1 q1 I1 ⊢
  clear hV1
  have rest : ∀ (U : World) (Bm Br : Nat), At U (w.heap.size + 1) #[.bool false] 4 → At U Bm #[.pointer (some ⟨pm, 0, none⟩)] 27 → At U Br #[.int .i64 x0, .int .i64 y0, .int .i64 x1, .int .i64 y1] 32 → Gr w U →
      K { tmps := #[.pointer (some ⟨pm, 0, none⟩), .agg #[.int .i64 a, .int .i64 b, .int .i64 c, .int .i64 d], undef, .pointer (some ⟨w.heap.size, 0, none⟩), .pointer (some ⟨w.heap.size + 1, 0, none⟩), undef, undef, undef, undef,
          .pointer (some ⟨pm, 0, none⟩), .agg #[.int .i64 a, .int .i64 b, .int .i64 c, .int .i64 d], .pointer (some ⟨pm, 0, none⟩), .agg #[.int .i64 0, .int .i64 0, .int .i64 W, .int .i64 H], .agg #[.int .i64 x0, .int .i64 y0, .int .i64 x1, .int .i64 y1],
          .func (.func 55) #[] #[.pointer (some ⟨Br, 0, none⟩), .pointer (some ⟨Bm, 0, none⟩)],
          undef, undef, undef, undef, undef, undef, undef, undef, undef, undef, undef, undef], defers := [] } U := by
    intro U Bm Br qU bm br GU
    refine hK _ _ ?_
    clear hK r1 q1 I1 g1 cc mixed
    have IU := hI.gr GU
    have hlt4 := hI.hd.lt
    have hlt5 := hI.cs.lt
    have hsU := GU.size
    have hBm := bm.lt
    have hBr := br.lt
    have hlr := qU.lt
    gi_wp2
    refine wpIn_rangeFunc_ownG rfl (by omega) (gf := 55) (lb := #[.pointer (some ⟨Br, 0, none⟩), .pointer (some ⟨Bm, 0, none⟩)]) rfl trivial (enters_of Try.func55 (by kernel_rfl) rfl)
      (spansStops (5 - 1) (by omega) Bm Br _ _ pm pc W H L.length L.length x0 x1 y0 y1 hx hw hy hh U IU.hd (Nat.le_refl _) IU.len IU.w2 IU.h2 bm br)
      (fun h k => h.trans k) (Keep3.book (by omega) (by omega) (by omega)) (Below.refl _ _) (fun _ => rfl)
      (fun pre V' => Img V' pm pc W H L ∧ At V' (w.heap.size + 1) #[.bool false] 4 ∧ w.grownBy V' none ∧ U.heap.size ≤ V'.heap.size ∧ allS W x0 x1 L (pre.map (·.1)) = true)
      (fun c pre V' => c = .ret ∧ At V' (w.heap.size + 1) #[.bool false] 4 ∧ w.grownBy V' none ∧ allS W x0 x1 L (pre.map (·.1)) = false)
      ((ownImg _ _ _ _ _ _).and ((ownAt _ _ _ _).and ((ownBy _ (by omega)).and ((ownSize _ _).and (ownFrom_pure _ _)))))
      (fun c => (ownFrom_pure _ _).and ((ownAt _ _ _ _).and ((ownBy _ (by omega)).and (ownFrom_pure _ _))))
      ⟨IU, qU, GU.by _, Nat.le_refl _, rfl⟩
      (fun x => { tmps := #[.pointer (some ⟨pm, 0, none⟩), .agg #[.int .i64 a, .int .i64 b, .int .i64 c, .int .i64 d], undef, .pointer (some ⟨w.heap.size, 0, none⟩), .pointer (some ⟨w.heap.size + 1, 0, none⟩), undef, .slice (some ⟨pc, x.1 * W + x0, none⟩) (x1 - x0) (L.length - (x.1 * W + x0)), undef, undef,
          .pointer (some ⟨pm, 0, none⟩), .agg #[.int .i64 a, .int .i64 b, .int .i64 c, .int .i64 d], .pointer (some ⟨pm, 0, none⟩), .agg #[.int .i64 0, .int .i64 0, .int .i64 W, .int .i64 H], .agg #[.int .i64 x0, .int .i64 y0, .int .i64 x1, .int .i64 y1],
          .func (.func 55) #[] #[.pointer (some ⟨Br, 0, none⟩), .pointer (some ⟨Bm, 0, none⟩)],
          .int .i64 (x.1 : Int), .slice (some ⟨pc, x.1 * W + x0, none⟩) (x1 - x0) (L.length - (x.1 * W + x0)), undef, undef, undef, undef, undef, undef, undef, undef, undef, undef], defers := [] }) ?assign ?body ?done ?stop
    case assign =>
      intro l x W' K' hK'
      dsimp only [rowV]
      gi_wp2
      exact hK'
    case body =>
      rintro l pre x W' ⟨hi, hr, hb, hsz, hall⟩ hlen
      have hf : allS W x0 x1 L ((pre ++ [x]).map (·.1)) = (allS W x0 x1 L (pre.map (·.1)) && rowS L (x.1 * W + x0) (x1 - x0)) := by rw [List.map_append]; exact allS_snoc _ _ _ _ _ _
      rw [hall, Bool.true_and] at hf
      have hp : x.1 * W + x0 + (x1 - x0) ≤ L.length := by
        have := row_of (show x1 - 1 < W by omega) x.2
        rw [← hI.len] at this
        have := hx (by omega)
        omega
      have hle := area_le hI.w2 hI.h2
      rw [← hI.len] at hle
      have hget : ∀ k, k < L.length → ∃ c, L[k]? = some c ∧ C32 c := fun k hk => ⟨L[k], List.getElem?_eq_getElem hk, h32 _ (List.getElem_mem hk)⟩
      generalize L.length = n at *
      generalize x.1 * W + x0 = p at *
      obtain ⟨m, hm'⟩ : ∃ m, m = x1 - x0 := ⟨_, rfl⟩
      rw [← hm'] at hf hp ⊢
      clear hm'
      obtain ⟨cc, hcc⟩ : ∃ cc, cc = n - p := ⟨_, rfl⟩
      have hmc : m ≤ cc := by omega
      rw [← hcc]
      clear hcc
      have hf' := Lib.hid hf
      have hall' := Lib.hid hall
      have hgett := Lib.hid hget
      clear hf hall hget h32
      gi_wp2
      gi_loopw [19] (fun i wr => ∃ k : Nat, k ≤ m ∧ i = .int .i64 k ∧ rowS L p k = true ∧ Gr W' wr)
        (fun i _ => m - (intOf i).toNat)
      case atStart => exact ⟨0, Nat.zero_le _, rfl, rfl, Gr.refl _⟩
      case round =>
        obtain ⟨k, hk, rfl, Sk, Gk⟩ := hrel
        have Ik := hi.gr Gk
        have qk := hr.gr Gk
        have Sk' := Lib.hid Sk
        clear Sk
        by_cases hlt : k < m
        · obtain ⟨q, hq, hq32⟩ := hgett.out (p + k) (by omega)
          have c1 := Ik.at hq
          have hsu := Lib.hid (rowS_succ hq)
          have cs := fun w => csolid1 q w hq32
          clear hq
          cases hso : (pA q == 255)
          · rw [hso] at cs hsu
            have z0 : ∀ w', Gr wr w' → w'.cell? ⟨w.heap.size + 1, 0, none⟩ = some (.bool false) ∧ w'.frozen? ⟨w.heap.size + 1, 0, none⟩ = false := fun w' g => ⟨(qk.gr g).cell 0, (qk.gr g).free 0⟩
            gi_wp2_with (refine ⟨trivial, ?_⟩; gi_at_call 50; refine (CallsIn.inRound l (callsIn_wide.2 (cs _))).mono ?_; rintro e w' ⟨rfl, g⟩; obtain ⟨z1, z2⟩ := z0 _ g)
            have q3 := (qk.gr g).put 0 (.bool false)
            simp at q3
            exact ⟨((Gk.keeps.trans g.keeps).trans (KeepsOthers.setCell _ _ _)).from _, rfl, q3, by_new (by_gr (by_gr hb Gk) g) (p := ⟨w.heap.size + 1, 0, none⟩) (by simp) _, by rw [hf'.out]; exact rowS_part (show k + 1 ≤ m by omega) (by rw [hsu.out, Sk'.out]; rfl)⟩
          · rw [hso] at cs hsu
            gi_wp2_with (refine ⟨trivial, ?_⟩; gi_at_call 50; refine (CallsIn.inRound l (callsIn_wide.2 (cs _))).mono ?_; rintro e w' ⟨rfl, g⟩)
            go_roundw
            case rel => exact ⟨k + 1, by omega, by simp, by rw [hsu.out, Sk'.out]; rfl, Gk.trans g⟩
            case measure => simp [intOf]; omega
        · obtain rfl : k = m := by omega
          gi_wp2
          exact ⟨Gk.keeps.from _, Gk.keep3 (by omega) (by omega) (by omega), hi.gr Gk, hr.gr Gk, by_gr hb Gk, by have := Gk.size; omega, by rw [hf'.out]; exact Sk'.out⟩
    case done =>
      rintro D ys W' hD hys ⟨hi, hr, hb, hsz, hall⟩ hK'
      have hys' := Lib.hid hys
      have hall' := Lib.hid hall
      clear hys hall
      have z1 : W'.cell? ⟨w.heap.size + 1, 0, none⟩ = some (.bool false) := hr.cell 0
      have z2 := hr.free 0
      gi_wp2
      have hX := hr.put 0 (.bool true)
      simp at hX
      have hbX := by_new hb (p := ⟨w.heap.size + 1, 0, none⟩) (by simp) (.bool true)
      have hKX : (W'.setCell ⟨w.heap.size + 1, 0, none⟩ (.bool true)).heap[D]? = some (.deferred (some [])) := (Below.heap_setCell _ _ _ _ (by simp; omega)).trans hK'
      generalize W'.setCell ⟨w.heap.size + 1, 0, none⟩ (.bool true) = X at hX hbX hKX ⊢
      refine ⟨by simp, .inl ⟨_, _, rfl, run_takeDeferred hKX, ?_⟩⟩
      have hgp := grownBy_putObj' X D (.deferred none)
      have c5 : (X.putObj D (.deferred none)).cell? ⟨w.heap.size + 1, 0, none⟩ = some (.bool true) := (hX.kept hgp (by simp; omega)).cell 0
      refine ⟨.bool true, ?_, by rw [← hys'.out, hall'.out], ?_⟩
      · simp [results, Try.results24, go_sem, c5]
      · exact bl_of (by_row hbX hgp (by omega))
    case stop =>
      rintro D cx pre W' hD hpre ⟨rfl, hr, hb, hall⟩ hK'
      gi_wp2
      refine ⟨by simp, .inl ⟨_, _, rfl, run_takeDeferred hK', ?_⟩⟩
      have hgp := grownBy_putObj' W' D (.deferred none)
      have c5 : (W'.putObj D (.deferred none)).cell? ⟨w.heap.size + 1, 0, none⟩ = some (.bool false) := (hr.kept hgp (by simp; omega)).cell 0
      refine ⟨.bool false, ?_, by rw [allS_pre hpre hall], ?_⟩
      · simp [results, Try.results24, go_sem, c5]
      · exact bl_of (by_row hb hgp (by omega))
  obtain ⟨t0, t1, t2, t3⟩ := cells4 r1
  have bx := fun (V : World) (h : Img V pm pc W H L) => box1 V h
  refine wpIn_mono (Q := Exit.then K (fun _ _ _ => False)) ?_ then_false
  gi_region_with_o (first | (refine ⟨trivial, ?_⟩; gi_at_call 34; refine (callsIn_wide.2 (bx _ (I1.gr (Gr.refl _).drew))).mono ?_; rintro e w2 ⟨rfl, g2⟩; have R2 := r1.drew.gr g2; obtain ⟨a0, a1, a2, a3⟩ := cells4 R2) | (refine ⟨trivial, ?_⟩; gi_at_call 37; refine (callsIn_wide.2 (cc _)).mono ?_; rintro e w3 ⟨rfl, g3⟩) | (refine ⟨trivial, ?_⟩; gi_at_call 38; refine (callsIn_wide.2 (spans1 _ _ _ _ _ _)).mono ?_; rintro e w4 ⟨rfl, rfl⟩))
  all_goals
    have G3 := ((g1.drew.trans g2).trans g3)
    have q3 := (q1.drew.gr g2).gr g3
    have bm := (At.new w3 #[.pointer (some ⟨pm, 0, none⟩)] 27).alloc (.cells #[.int .i64 x0, .int .i64 y0, .int .i64 x1, .int .i64 y1] 32)
    have br := At.newAt (w := w3.alloc (.cells #[.pointer (some ⟨pm, 0, none⟩)] 27)) (n := w3.heap.size + 1) (by simp) #[.int .i64 x0, .int .i64 y0, .int .i64 x1, .int .i64 y1] 32
    exact rest _ _ _ ((q3.alloc _).alloc _) bm br ((G3.alloc _).alloc _)

end Go.Proofs.Ytmaondghfncjoaa
