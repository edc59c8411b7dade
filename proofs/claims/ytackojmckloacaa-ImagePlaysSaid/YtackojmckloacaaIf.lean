/-
  What is proved: what Fill of package image does.
-/
import Derived.Test.YtackojmckloacaaIs
namespace Go.Proofs.Ytackojmckloacaa
open Go.RowKit Go.Sort Go.Shelf

attribute [local go_sem] Oper.semAt_some

/-- Values put in from place k on. -/
def putRun : List Int → Nat → List Int → List Int
  | L, _, [] => L
  | L, k, v :: vs => putRun (L.set k v) (k + 1) vs
theorem putRun_len : ∀ (vs L : List Int) (k : Nat), (putRun L k vs).length = L.length
  | [], _, _ => rfl
  | v :: vs, L, k => by unfold putRun; rw [putRun_len vs]; simp
theorem putRun_snoc : ∀ (vs L : List Int) (k : Nat) (v : Int), putRun L k (vs ++ [v]) = (putRun L k vs).set (k + vs.length) v
  | [], L, k, v => by simp [putRun]
  | u :: vs, L, k, v => by
    show putRun (L.set k u) (k + 1) (vs ++ [v]) = (putRun (L.set k u) (k + 1) vs).set (k + (vs.length + 1)) v
    rw [putRun_snoc vs]; congr 1; omega
theorem putRun_get : ∀ (vs L : List Int) (k i : Nat), (putRun L k vs)[i]? = if k ≤ i ∧ i < k + vs.length ∧ i < L.length then vs[i - k]? else L[i]?
  | [], L, k, i => by
    rw [if_neg (by simp; omega)]; rfl
  | v :: vs, L, k, i => by
    show (putRun (L.set k v) (k + 1) vs)[i]? = _
    rw [putRun_get vs]
    simp only [List.length_set, List.length_cons]
    by_cases h : k + 1 ≤ i ∧ i < k + 1 + vs.length ∧ i < L.length
    · rw [if_pos h, if_pos (by omega), show i - k = (i - (k + 1)) + 1 by omega]; rfl
    · rw [if_neg h, List.getElem?_set]
      by_cases h2 : k = i
      · subst h2
        by_cases h3 : k < L.length
        · simp [h3]
        · simp [h3]
      · rw [if_neg h2, if_neg (by omega)]

/-- Rows y of W colors, from x0 up to x1, that are filled. -/
def fillR (W x0 x1 : Nat) (c : Int) (L : List Int) (ys : List Nat) : List Int := ys.foldl (fun L y => putRun L (y * W + x0) (List.replicate (x1 - x0) c)) L
theorem fillR_len (W x0 x1 : Nat) (c : Int) : ∀ (ys : List Nat) (L : List Int), (fillR W x0 x1 c L ys).length = L.length
  | [], _ => rfl
  | y :: ys, L => by
    show (fillR W x0 x1 c (putRun L _ _) ys).length = _
    rw [fillR_len W x0 x1 c ys, putRun_len]
theorem fillR_snoc (W x0 x1 : Nat) (c : Int) (ys : List Nat) (L : List Int) (y : Nat) : fillR W x0 x1 c L (ys ++ [y]) = putRun (fillR W x0 x1 c L ys) (y * W + x0) (List.replicate (x1 - x0) c) := by simp [fillR]

theorem ownAt {β : Type} (B b : Nat) (cs : β → Array Value) (t : TypeId) : OwnFrom B (fun s W => At W b (cs s) t) := fun s X Y row hs hg hr =>
  hs.kept hg (fun e => by obtain ⟨_, o, ho, hc⟩ := hr b e.symm; rw [show X.heap[b]? = _ from hs] at ho; cases ho; cases hc)
theorem ownImg {β : Type} (B pm pc W H : Nat) (L : β → List Int) : OwnFrom B (fun s V => Img V pm pc W H (L s)) := fun s X Y row hs hg hr =>
  hs.kept hg (fun e => by obtain ⟨_, o, ho, hc⟩ := hr pm e.symm; rw [show X.heap[pm]? = _ from hs.hd] at ho; cases ho; cases hc)
    (fun e => by obtain ⟨_, o, ho, hc⟩ := hr pc e.symm; rw [show X.heap[pc]? = _ from hs.cs] at ho; cases ho; cases hc)
theorem ownBy {β : Type} {B : Nat} {w0 : World} (row0 : Option Nat) (h : w0.heap.size ≤ B) : OwnFrom B (fun (_ : β) V => w0.grownBy V row0) := fun _ X Y row hs hg hr =>
  ⟨hg.os.trans hs.os, hg.tape.trans hs.tape, hg.output.trans hs.output, Nat.le_trans hs.size hg.size, fun k hk hne => (hg.block k (Nat.lt_of_lt_of_le hk hs.size) (fun e => by have := (hr k e.symm).1; omega)).trans (hs.block k hk hne)⟩

theorem then_false {K : Act → World → Prop} {Q : Exit → Act → World → Prop} : ∀ e a w, Exit.then K (fun _ _ _ => False) e a w → Exit.then K Q e a w := by
  intro e a w h
  cases e <;> first | exact h | exact h.elim
/-- A block that was not there may be turned. -/
theorem by_row {a b c : World} {row : Option Nat} {r : Nat} (h : a.grownBy b row) (g : b.grownBy c (some r)) (hr : a.heap.size ≤ r) : a.grownBy c row :=
  ⟨g.os.trans h.os, g.tape.trans h.tape, g.output.trans h.output, Nat.le_trans h.size g.size, fun k hk hne => (g.block k (Nat.lt_of_lt_of_le hk h.size) (fun e => by cases e; omega)).trans (h.block k hk hne)⟩
theorem cells4 {w : World} {b : Nat} {v0 v1 v2 v3 : Value} {t : TypeId} (h : At w b #[v0, v1, v2, v3] t) : w.cell? ⟨b, 0, none⟩ = some v0 ∧ w.cell? ⟨b, 1, none⟩ = some v1 ∧ w.cell? ⟨b, 2, none⟩ = some v2 ∧ w.cell? ⟨b, 3, none⟩ = some v3 := ⟨h.cell 0, h.cell 1, h.cell 2, h.cell 3⟩
theorem free4 {w : World} {b : Nat} {cs : Array Value} {t : TypeId} (h : At w b cs t) : w.frozen? ⟨b, 0, none⟩ = false ∧ w.frozen? ⟨b, 1, none⟩ = false ∧ w.frozen? ⟨b, 2, none⟩ = false ∧ w.frozen? ⟨b, 3, none⟩ = false := ⟨h.free 0, h.free 1, h.free 2, h.free 3⟩

set_option maxRecDepth 100000 in
set_option maxHeartbeats 2000000 in
theorem fill1 {pm pc W H : Nat} {L : List Int} (w : World) (hI : Img w pm pc W H L) (a b c d : Int) (q : Int) (hq : C32 q) (hm : mayC q = true) (x0 x1 y0 y1 : Nat) (hcut : cutR a b c d 0 0 W H = ⟨x0, y0, x1, y1⟩) (hx0 : x0 ≤ x1) (hx : y0 < y1 → x0 < x1) (hw : x1 ≤ W) (hy : y0 ≤ y1) (hh : y1 ≤ H) :
    Calls Try.prog 9 #[.pointer (some ⟨pm, 0, none⟩), .agg #[.int .i64 a, .int .i64 b, .int .i64 c, .int .i64 d], .int .u32 q] w
      (fun e w' => e = .returned (.int .i64 (areaI x0 y0 x1 y1)) ∧ w.grownBy w' (some pc) ∧ Img w' pm pc W H (fillR W x0 x1 q L (List.range' y0 (y1 - y0)))) := by
  have cm := fun w => cmay1 q w hq
  rw [hm] at cm
  have cc := fun w => cut1 a b c d 0 0 W H w
  rw [hcut] at cc
  dsimp only at cc
  clear hcut
  have mixed : Try.prog.follows .mixedOrders = true := by kernel_rfl
  refine (callsIn_wide (n := 5)).1 ?_
  refine callsIn_of_wp_marks Try.func9 rfl trivial ?_ rfl
  simp only [Try.ntmps9, List.size_toArray, List.length_cons, List.length_nil, Nat.reduceAdd, Nat.reduceSub, Array.replicate_succ, Array.replicate_zero, List.push_toArray, List.append_toArray, List.nil_append, List.cons_append]
  gi_wp2_with fail
  refine ⟨trivial, ?_⟩
  refine (callsIn_wide.2 (cm _)).mono ?_
  rintro e w1 ⟨rfl, g1⟩
  have I1 := hI.gr (((Gr.refl w).alloc _).alloc _ |>.trans g1)
  have r1 := (((At.new w #[.int .i64 a, .int .i64 b, .int .i64 c, .int .i64 d] 32).alloc (.cells #[.int .u32 q] 30)).gr g1)
  have q1 := (At.newAt (w := w.alloc (.cells #[.int .i64 a, .int .i64 b, .int .i64 c, .int .i64 d] 32)) (n := w.heap.size + 1) (by simp) #[.int .u32 q] 30).gr g1
  have G1 := ((((Gr.refl w).alloc _).alloc _).trans g1)
  gi_wp2
  rename_i K hK
  have rest : ∀ V : World, At V w.heap.size #[.int .i64 x0, .int .i64 y0, .int .i64 x1, .int .i64 y1] 32 → At V (w.heap.size + 1) #[.int .u32 q] 30 → Gr w V →
      K { tmps := #[.pointer (some ⟨pm, 0, none⟩), .agg #[.int .i64 a, .int .i64 b, .int .i64 c, .int .i64 d], .int .u32 q, undef, .pointer (some ⟨w.heap.size, 0, none⟩), .pointer (some ⟨w.heap.size + 1, 0, none⟩), .int .i64 0, undef, undef, undef, .int .u32 q, .bool true, .bool false,
          .agg #[.int .i64 a, .int .i64 b, .int .i64 c, .int .i64 d], .pointer (some ⟨pm, 0, none⟩), .agg #[.int .i64 0, .int .i64 0, .int .i64 W, .int .i64 H], .agg #[.int .i64 x0, .int .i64 y0, .int .i64 x1, .int .i64 y1],
          undef, undef, undef, undef, undef, undef, undef, undef, undef, undef, undef, undef, undef, undef, undef, undef, undef], defers := [] } V := by
    intro V R4 q4 G4
    refine hK _ _ ?_
    clear hK r1 q1 I1 G1 g1 cm cc mixed
    have I4 := hI.gr G4
    have hlt4 := hI.hd.lt
    have hlt5 := hI.cs.lt
    obtain ⟨t0, t1, t2, t3⟩ := cells4 R4
    gi_wp2_with fail
    refine ⟨trivial, ?_⟩
    refine (callsIn_wide.2 (spans1 _ _ _ _ _ _)).mono ?_
    rintro e w5 ⟨rfl, rfl⟩
    clear t0 t1 t2 t3
    have bm := (At.new V #[.pointer (some ⟨pm, 0, none⟩)] 27).alloc (.cells #[.int .i64 x0, .int .i64 y0, .int .i64 x1, .int .i64 y1] 32)
    have br := At.newAt (w := V.alloc (.cells #[.pointer (some ⟨pm, 0, none⟩)] 27)) (n := V.heap.size + 1) (by simp) #[.int .i64 x0, .int .i64 y0, .int .i64 x1, .int .i64 y1] 32
    have I5 := (I4.gr ((Gr.refl V).alloc (.cells #[.pointer (some ⟨pm, 0, none⟩)] 27))).gr ((Gr.refl _).alloc (.cells #[.int .i64 x0, .int .i64 y0, .int .i64 x1, .int .i64 y1] 32))
    have R5 := (R4.gr ((Gr.refl V).alloc (.cells #[.pointer (some ⟨pm, 0, none⟩)] 27))).gr ((Gr.refl _).alloc (.cells #[.int .i64 x0, .int .i64 y0, .int .i64 x1, .int .i64 y1] 32))
    have q5 := (q4.gr ((Gr.refl V).alloc (.cells #[.pointer (some ⟨pm, 0, none⟩)] 27))).gr ((Gr.refl _).alloc (.cells #[.int .i64 x0, .int .i64 y0, .int .i64 x1, .int .i64 y1] 32))
    have G5 := (G4.alloc (.cells #[.pointer (some ⟨pm, 0, none⟩)] 27)).alloc (.cells #[.int .i64 x0, .int .i64 y0, .int .i64 x1, .int .i64 y1] 32)
    have hs4 := G4.size
    have hs5 : ((V.alloc (.cells #[.pointer (some ⟨pm, 0, none⟩)] 27)).alloc (.cells #[.int .i64 x0, .int .i64 y0, .int .i64 x1, .int .i64 y1] 32)).heap.size = V.heap.size + 2 := by simp
    have hlr := R4.lt
    gi_wp2
    obtain ⟨U, hU⟩ : ∃ U, U = (V.alloc (.cells #[.pointer (some ⟨pm, 0, none⟩)] 27)).alloc (.cells #[.int .i64 x0, .int .i64 y0, .int .i64 x1, .int .i64 y1] 32) := ⟨_, rfl⟩
    rw [← hU] at bm br I5 R5 q5 G5 hs5 ⊢
    clear hU
    refine wpIn_rangeFunc_ownG rfl (by omega) (gf := 43) (lb := #[.pointer (some ⟨V.heap.size + 1, 0, none⟩), .pointer (some ⟨V.heap.size, 0, none⟩)]) rfl trivial (enters_of Try.func43 (by kernel_rfl) rfl)
      (spansStops (5 - 1) (by omega) V.heap.size (V.heap.size + 1) _ _ pm pc W H L.length L.length x0 x1 y0 y1 hx hw hy hh U I5.hd (Nat.le_refl _) I5.len I5.w2 I5.h2 bm br)
      (fun h k => h.trans k) (Keep3.book (by omega) (by omega) (by omega)) (Below.refl _ _) (fun _ => rfl)
      (fun pre V' => Img V' pm pc W H (fillR W x0 x1 q L (pre.map (·.1))) ∧ At V' w.heap.size #[.int .i64 x0, .int .i64 y0, .int .i64 x1, .int .i64 y1] 32 ∧ At V' (w.heap.size + 1) #[.int .u32 q] 30 ∧ w.grownBy V' (some pc))
      (fun _ _ _ => False)
      ((ownImg _ _ _ _ _ _).and ((ownAt _ _ _ _).and ((ownAt _ _ _ _).and (ownBy _ (by omega)))))
      (fun _ _ _ _ _ hs _ _ => hs)
      ⟨I5, R5, q5, G5.by _⟩
      (fun x => { tmps := #[.pointer (some ⟨pm, 0, none⟩), .agg #[.int .i64 a, .int .i64 b, .int .i64 c, .int .i64 d], .int .u32 q, undef, .pointer (some ⟨w.heap.size, 0, none⟩), .pointer (some ⟨w.heap.size + 1, 0, none⟩), .int .i64 0, undef, .slice (some ⟨pc, x.1 * W + x0, none⟩) (x1 - x0) (L.length - (x.1 * W + x0)), undef, .int .u32 q, .bool true, .bool false,
          .agg #[.int .i64 a, .int .i64 b, .int .i64 c, .int .i64 d], .pointer (some ⟨pm, 0, none⟩), .agg #[.int .i64 0, .int .i64 0, .int .i64 W, .int .i64 H], .agg #[.int .i64 x0, .int .i64 y0, .int .i64 x1, .int .i64 y1],
          .pointer (some ⟨pm, 0, none⟩), .agg #[.int .i64 x0, .int .i64 y0, .int .i64 x1, .int .i64 y1], .func (.func 43) #[] #[.pointer (some ⟨V.heap.size + 1, 0, none⟩), .pointer (some ⟨V.heap.size, 0, none⟩)], .int .i64 (x.1 : Int), .slice (some ⟨pc, x.1 * W + x0, none⟩) (x1 - x0) (L.length - (x.1 * W + x0)),
          undef, undef, undef, undef, undef, undef, undef, undef, undef, undef, undef, undef], defers := [] }) ?assign ?body ?done ?stop
    case assign =>
      intro l x W' K' hK'
      dsimp only [rowV]
      gi_wp2
      exact hK'
    case body =>
      rintro l pre x W' ⟨hi, hr, hc, hb⟩ hlen
      have hf : fillR W x0 x1 q L ((pre ++ [x]).map (·.1)) = putRun (fillR W x0 x1 q L (pre.map (·.1))) (x.1 * W + x0) (List.replicate (x1 - x0) q) := by rw [List.map_append]; exact fillR_snoc _ _ _ _ _ _ _
      have hp : x.1 * W + x0 + (x1 - x0) ≤ L.length := by
        have := row_of (show x1 - 1 < W by omega) x.2
        rw [← hI.len] at this
        have := hx (by omega)
        omega
      have hFl : (fillR W x0 x1 q L (pre.map (·.1))).length = L.length := fillR_len _ _ _ _ _ _
      have hle := area_le hI.w2 hI.h2
      rw [← hI.len] at hle
      generalize fillR W x0 x1 q L (pre.map (·.1)) = F at *
      generalize L.length = n at *
      generalize x.1 * W + x0 = p at *
      obtain ⟨m, hm'⟩ : ∃ m, m = x1 - x0 := ⟨_, rfl⟩
      rw [← hm'] at hf hp ⊢
      clear hm'
      obtain ⟨cc, hcc⟩ : ∃ cc, cc = n - p := ⟨_, rfl⟩
      have hmc : m ≤ cc := by omega
      rw [← hcc]
      clear hcc
      have hf' := Lib.hid hf
      have hFl' := Lib.hid hFl
      clear hf hFl
      gi_wp2
      gi_loopw [24] (fun i wr => ∃ k : Nat, k ≤ m ∧ i = .int .i64 k ∧ Img wr pm pc W H (putRun F p (List.replicate k q)) ∧ At wr w.heap.size #[.int .i64 x0, .int .i64 y0, .int .i64 x1, .int .i64 y1] 32 ∧ At wr (w.heap.size + 1) #[.int .u32 q] 30 ∧ w.grownBy wr (some pc) ∧ KeepsOthers W' wr ∧ Keep3 pm V.heap.size (V.heap.size + 1) W' wr)
        (fun i _ => m - (intOf i).toNat)
      case atStart => exact ⟨0, Nat.zero_le _, rfl, hi, hr, hc, hb, KeepsOthers.refl _, Keep3.refl _ _ _ _⟩
      case round =>
        obtain ⟨k, hk, rfl, Ik, rk, qk, bk, ok, kk⟩ := hrel
        by_cases hlt : k < m
        · obtain ⟨old, hold⟩ : ∃ old, (putRun F p (List.replicate k q))[p + k]? = some old := list_at (by rw [putRun_len, hFl'.out]; omega)
          have c1 := Ik.at hold
          have f1 := Ik.cs.free (p + k)
          have c2 : wr.cell? ⟨w.heap.size + 1, 0, none⟩ = some (.int .u32 q) := qk.cell 0
          clear hold
          gi_wp2
          go_roundw
          case rel =>
            refine ⟨k + 1, by omega, by simp, ?_, rk.far (p := ⟨pc, p + k, none⟩) (by simp; omega) _, qk.far (p := ⟨pc, p + k, none⟩) (by simp; omega) _, by_set (p := ⟨pc, p + k, none⟩) bk _, ok.trans (KeepsOthers.setCell _ _ _), kk.trans ⟨Below.heap_setCell _ _ _ _ (by simp; exact hI.ne), Below.heap_setCell _ _ _ _ (by simp; omega), Below.heap_setCell _ _ _ _ (by simp; omega)⟩⟩
            have := Ik.set (p + k) q
            rw [List.replicate_succ', putRun_snoc, List.length_replicate]
            exact this
          case measure => simp [intOf]; omega
        · obtain rfl : k = m := by omega
          gi_wp2
          exact ⟨ok.from _, kk, by rw [hf'.out]; exact Ik, rk, qk, bk⟩
    case done =>
      rintro D ys W' hD hys ⟨hi, hr, hc, hb⟩ hK'
      have hys' := Lib.hid hys
      clear hys
      obtain ⟨t0, t1, t2, t3⟩ := cells4 hr
      have hmay : mayB x0 y0 x1 y1 = true := by
        have := hI.w2; have := hI.h2
        rcases Nat.lt_or_ge y0 y1 with h | h
        · have := hx h; simp [mayB]; omega
        · simp [mayB]; omega
      gi_wp2_with fail
      refine ⟨trivial, ?_⟩
      refine (callsIn_wide.2 (area1 _ _ _ _ _ hmay)).mono ?_
      rintro e w6 ⟨rfl, g6⟩
      have hK6 : w6.heap[D]? = some (.deferred (some [])) := (g6.below.block D (Array.getElem?_eq_some_iff.1 hK').1).trans hK'
      gi_wp2
      refine ⟨by simp, .inl ⟨_, _, rfl, run_takeDeferred hK6, ?_⟩⟩
      have hgp := grownBy_putObj' w6 D (.deferred none)
      refine ⟨_, results_tmp rfl _ _ _, rfl, ?_, ?_⟩
      · exact by_row (by_gr hb g6) hgp (by omega)
      · rw [← hys'.out]
        exact (hi.gr g6).kept hgp (by simp; omega) (by simp; omega)
    case stop =>
      rintro D c pre W' _ _ h _
      exact h.elim
  obtain ⟨t0, t1, t2, t3⟩ := cells4 r1
  have bx := fun (V : World) (h : Img V pm pc W H L) => box1 V h
  refine wpIn_mono (Q := Exit.then K (fun _ _ _ => False)) ?_ then_false
  gi_region_with_o (first | (refine ⟨trivial, ?_⟩; gi_at_call 24; refine (callsIn_wide.2 (bx _ (I1.gr (Gr.refl _).drew))).mono ?_; rintro e w2 ⟨rfl, g2⟩; have R2 := r1.drew.gr g2; obtain ⟨a0, a1, a2, a3⟩ := cells4 R2) | (refine ⟨trivial, ?_⟩; gi_at_call 27; refine (callsIn_wide.2 (cc _)).mono ?_; rintro e w3 ⟨rfl, g3⟩; have R3 := R2.gr g3; obtain ⟨b0, b1, b2, b3⟩ := cells4 R3; obtain ⟨f0, f1, f2, f3⟩ := free4 R3))
  all_goals
    refine rest _ (R3.put4 (.int .i64 x0) (.int .i64 y0) (.int .i64 x1) (.int .i64 y1)) ((((((q1.drew).gr g2).gr g3).far (p := ⟨w.heap.size, 0, none⟩) (by simp) (.int .i64 x0)).far (p := ⟨w.heap.size, 1, none⟩) (by simp) (.int .i64 y0)).far (p := ⟨w.heap.size, 2, none⟩) (by simp) (.int .i64 x1) |>.far (p := ⟨w.heap.size, 3, none⟩) (by simp) (.int .i64 y1)) ?_
    exact (((((G1.drew.trans g2).trans g3).setCell (p := ⟨w.heap.size, 0, none⟩) (Nat.le_refl _) (.int .i64 x0)).setCell (p := ⟨w.heap.size, 1, none⟩) (Nat.le_refl _) (.int .i64 y0)).setCell (p := ⟨w.heap.size, 2, none⟩) (Nat.le_refl _) (.int .i64 x1)).setCell (p := ⟨w.heap.size, 3, none⟩) (Nat.le_refl _) (.int .i64 y1)

end Go.Proofs.Ytackojmckloacaa
