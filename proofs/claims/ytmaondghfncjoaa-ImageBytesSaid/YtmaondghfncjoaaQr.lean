/-
  What is proved: what Read of package image does where it does not refuse, and where it does.
-/
import Derived.Test.YtmaondghfncjoaaIf
import Derived.Test.YtmaondghfncjoaaIy
import Derived.Test.YtmaondghfncjoaaIx
import Derived.Outline
namespace Go.Proofs.Ytmaondghfncjoaa
open Go.RowKit Go.Sort Go.Shelf

attribute [local go_sem] Oper.semAt_some

/-- A color's bytes. -/
def px (c : Int) : List Int := [pA c, pR c, pG c, pB c]
/-- The bytes of m colors from place k on. -/
def rowPx (L : List Int) (k m : Nat) : List Int := ((L.drop k).take m).flatMap px
theorem rowPx_zero (L : List Int) (k : Nat) : rowPx L k 0 = [] := by simp [rowPx]
theorem rowPx_succ {L : List Int} {k j : Nat} {c : Int} (h : L[k + j]? = some c) : rowPx L k (j + 1) = rowPx L k j ++ px c := by
  unfold rowPx
  rw [List.take_add_one, List.getElem?_drop, h, List.flatMap_append]
  simp
theorem flat_len : ∀ L : List Int, (L.flatMap px).length = 4 * L.length
  | [] => rfl
  | c :: l => by rw [List.flatMap_cons, List.length_append, flat_len l, List.length_cons]; simp [px]; omega
theorem rowPx_len {L : List Int} {k m : Nat} (h : k + m ≤ L.length) : (rowPx L k m).length = 4 * m := by
  unfold rowPx; rw [flat_len, List.length_take, List.length_drop]; omega
/-- The bytes of rows y of W colors, from x0 up to x1. -/
def readR (W x0 x1 : Nat) (L : List Int) (ys : List Nat) : List Int := ys.flatMap fun y => rowPx L (y * W + x0) (x1 - x0)
theorem readR_snoc (W x0 x1 : Nat) (L : List Int) (ys : List Nat) (y : Nat) : readR W x0 x1 L (ys ++ [y]) = readR W x0 x1 L ys ++ rowPx L (y * W + x0) (x1 - x0) := by simp [readR]
theorem readR_len (W x0 x1 : Nat) (L : List Int) (ys : List Nat) (h : ∀ y ∈ ys, y * W + x0 + (x1 - x0) ≤ L.length) : (readR W x0 x1 L ys).length = 4 * ((x1 - x0) * ys.length) := by
  induction ys with
  | nil => simp [readR]
  | cons y l ih =>
    have e : readR W x0 x1 L (y :: l) = rowPx L (y * W + x0) (x1 - x0) ++ readR W x0 x1 L l := by simp [readR]
    rw [e, List.length_append, ih (fun z hz => h z (by simp [hz])), rowPx_len (h y (by simp)), List.length_cons, Nat.mul_add, Nat.mul_add]
    omega

/-- A row of bytes that the call owns abides the loop's book-keeping. -/
theorem OwN.turn {k : IntKind} {e : TypeId} {X Y : World} {B : Nat} {A : Option Addr} {c : Nat} {L : List Int} {row : Option Nat} (h : OwN k e X B A c L) (g : X.grownBy Y row) (hr : ∀ r, row = some r → ∃ o : Obj, X.heap[r]? = some o ∧ o.isCells = false) : OwN k e Y B A c L := by
  refine h.grown g ?_
  rcases h.2 with ⟨h1, _⟩ | ⟨b, cap, cur, h1, _, h3, _⟩
  · injection h1 with h1; exact .inl h1
  · right
    intro e'
    injection h1 with h1 _ _
    rw [h1] at e'
    obtain ⟨o, ho, hc⟩ := hr b e'.symm
    rw [h3] at ho
    cases ho; cases hc
/-- The box that holds the row. -/
theorem OwN.isCells {k : IntKind} {e : TypeId} {X : World} {B g c : Nat} {L : List Int} (h : OwN k e X B (some ⟨g, 0, none⟩) c L) {o : Obj} (ho : X.heap[g]? = some o) : o.isCells = true := by
  rcases h.2 with ⟨h1, _⟩ | ⟨b, cap, cur, h1, _, h3, _⟩
  · injection h1 with h1; cases h1
  · injection h1 with h1 _ _
    injection h1 with h1
    injection h1 with h1
    subst h1
    rw [h3] at ho
    cases ho; rfl
theorem OwN.cap {k : IntKind} {e : TypeId} {w : World} {B : Nat} {A : Option Addr} {c : Nat} {L : List Int} (h : OwN k e w B A c L) : L.length ≤ c := by
  rcases h.2 with ⟨h1, h2⟩ | ⟨g, cap, cur, h1, _, _, h4, _⟩
  · omega
  · injection h1 with a b c'; omega
theorem by_bl {a b : World} (h : a.grownBy b none) : Bl a b := ⟨h.os, h.tape, h.output, h.size, fun k hk => h.block k hk (by simp)⟩
structure BoxB (w : World) (B b g cap : Nat) (L : List Int) : Prop where
  at_ : At w b #[.slice (some ⟨g, 0, none⟩) L.length cap] 33
  own : OwN .u8 5 w B (some ⟨g, 0, none⟩) cap L
theorem ownBox {β : Type} (B0 B b g cap : Nat) (f : β → List Int) : OwnFrom B0 (fun s W => BoxB W B b g cap (f s)) := fun s X Y row hs hg hr =>
  ⟨hs.at_.kept hg (fun e => by obtain ⟨_, o, ho, hc⟩ := hr b e.symm; rw [show X.heap[b]? = _ from hs.at_] at ho; cases ho; cases hc), hs.own.turn hg (fun r e => (hr r e).2)⟩
theorem BoxB.gr {w w' : World} {B b g cap : Nat} {L : List Int} (h : BoxB w B b g cap L) (k : Gr w w') : BoxB w' B b g cap L := ⟨h.at_.gr k, h.own.gr k⟩
theorem makeY0 (N : Nat) (h : N ≤ 1000000000) (w : World) : (Instr.makeSlice 33 (.int .i64 0) (.int .i64 (N : Int))).run Try.prog w =
    .ok (.slice (some ⟨w.heap.size, 0, none⟩) 0 N) (w.alloc (.cells (madeCells #[.int .u8 0] N) 5)) := by
  obtain ⟨i0, hi, hz0, hz1, hz2⟩ := info_parts infoBy
  have := run_make (P := Try.prog) w 33 5 i0 _ Try.underlying33 hi hz0 .i64 .i64 0 (N : Int) (Int.le_refl _) (by omega) (by rw [hz2]; omega) (by omega)
  rw [this, hz1]
  simp [Value.cells]
theorem madeY0 (N B : Nat) (h : N ≤ 1000000) (w : World) (hB : B ≤ w.heap.size) : OwN .u8 5 (w.alloc (.cells (madeCells #[.int .u8 0] N) 5)) B (some ⟨w.heap.size, 0, none⟩) N [] :=
  World.ownsRow_made w _ N hB (by unfold maxLen; omega) (by rw [size_madeCells, Nat.mul_one])

set_option maxRecDepth 100000 in
set_option maxHeartbeats 4000000 in
theorem iread1c {pm pc W H : Nat} {L : List Int} (w : World) (hI : Img w pm pc W H L) (h32 : ∀ c ∈ L, C32 c) (x0 y0 x1 y1 : Nat) (hx : x0 < x1) (hw : x1 ≤ W) (hy : y0 < y1) (hh : y1 ≤ H) :
    Calls Try.prog 21 #[.pointer (some ⟨pm, 0, none⟩), .agg #[.int .i64 x0, .int .i64 y0, .int .i64 x1, .int .i64 y1]] w
      (fun e w' => ∃ (A : Option Addr) (c : Nat), e = .returned (.tuple #[.slice A (readR W x0 x1 L (List.range' y0 (y1 - y0))).length c, .int .i64 0]) ∧ Ns .u8 w' A (readR W x0 x1 L (List.range' y0 (y1 - y0))) ∧ Bl w w' ∧ (readR W x0 x1 L (List.range' y0 (y1 - y0))).length ≤ c ∧ c ≤ 262144) := by
  have ch := fun (V : World) (h : Img V pm pc W H L) => hasAll1 V h x0 y0 x1 y1
  rw [show (!emptyB (x0 : Int) y0 x1 y1 && coversB 0 0 W H x0 y0 x1 y1) = true by simp [emptyB, coversB]; omega] at ch
  have hmay : mayB x0 y0 x1 y1 = true := by have := hI.w2; have := hI.h2; simp [mayB]; omega
  have cA := fun V => area1 x0 y0 x1 y1 V hmay
  have mixed : Try.prog.follows .mixedOrders = true := by kernel_rfl
  refine (callsIn_wide (n := 5)).1 ?_
  refine callsIn_of_wp_marks Try.func21 rfl trivial ?_ rfl
  simp only [Try.ntmps21, List.size_toArray, List.length_cons, List.length_nil, Nat.reduceAdd, Nat.reduceSub, Array.replicate_succ, Array.replicate_zero, List.push_toArray, List.append_toArray, List.nil_append, List.cons_append]
  obtain ⟨N, hN⟩ : ∃ N : Nat, N = (x1 - x0) * (y1 - y0) := ⟨_, rfl⟩
  have hNa : areaI x0 y0 x1 y1 = (N : Int) := by unfold areaI; rw [hN, Int.natCast_mul, Int.natCast_sub (Nat.le_of_lt hx), Int.natCast_sub (Nat.le_of_lt hy)]
  have hN2 : N ≤ 65536 := by
    have := Nat.mul_le_mul (show x1 - x0 ≤ 256 by have := hI.w2; omega) (show y1 - y0 ≤ 256 by have := hI.h2; omega)
    omega
  rw [hNa] at cA
  replace hN := Lib.hid hN
  clear hNa hmay
  have R0 := At.new w #[.int .i64 x0, .int .i64 y0, .int .i64 x1, .int .i64 y1] 32
  have G0 := (Gr.refl w).alloc (.cells #[.int .i64 x0, .int .i64 y0, .int .i64 x1, .int .i64 y1] 32)
  gi_wp2_with fail
  refine ⟨trivial, ?_⟩
  refine (callsIn_wide.2 (ch _ (hI.gr G0))).mono ?_
  rintro e w1 ⟨rfl, g1⟩
  replace R0 := R0.gr g1
  replace G0 := G0.trans g1
  clear g1 ch
  obtain ⟨t0, t1, t2, t3⟩ := cells4 R0
  gi_wp2_with fail
  refine ⟨trivial, ?_⟩
  refine (callsIn_wide.2 (cA _)).mono ?_
  rintro e w2 ⟨rfl, g2⟩
  replace R0 := R0.gr g2
  replace G0 := G0.trans g2
  clear g2 cA t0 t1 t2 t3
  have hmk := makeY0 (4 * N) (by omega) w2
  rw [show ((4 * N : Nat) : Int) = 4 * (N : Int) by omega] at hmk
  have hB := G0.size
  have O3 := madeY0 (4 * N) w.heap.size (by omega) w2 hB
  have G3 := (Gr.refl w2).alloc (.cells (madeCells #[.int .u8 0] (4 * N)) 5)
  obtain ⟨g, hg⟩ : ∃ g, g = w2.heap.size := ⟨_, rfl⟩
  obtain ⟨V3, hV3⟩ : ∃ V, V = w2.alloc (.cells (madeCells #[.int .u8 0] (4 * N)) 5) := ⟨_, rfl⟩
  rw [← hV3] at hmk O3 G3
  rw [← hg] at hmk O3
  have B4 := At.new V3 #[.slice (some ⟨g, 0, none⟩) 0 (4 * N)] 33
  have O4 := O3.gr ((Gr.refl V3).alloc (.cells #[.slice (some ⟨g, 0, none⟩) 0 (4 * N)] 33))
  have R4 := (R0.gr G3).alloc (.cells #[.slice (some ⟨g, 0, none⟩) 0 (4 * N)] 33)
  have G4 := (G0.trans G3).alloc (.cells #[.slice (some ⟨g, 0, none⟩) 0 (4 * N)] 33)
  have hgV : g < V3.heap.size := by rw [hV3, hg]; simp
  obtain ⟨t0, t1, t2, t3⟩ := cells4 R4
  replace hg := Lib.hid hg
  replace hV3 := Lib.hid hV3
  clear O3 G3 R0
  gi_wp2_with fail
  have I4 : Img (V3.alloc (.cells #[.slice (some ⟨g, 0, none⟩) 0 (4 * N)] 33)) pm pc W H L := hI.gr G4
  have X4 : BoxB (V3.alloc (.cells #[.slice (some ⟨g, 0, none⟩) 0 (4 * N)] 33)) w.heap.size V3.heap.size g (4 * N) [] := ⟨B4, O4⟩
  have hgw : w.heap.size ≤ g := by rw [hg.out]; exact hB
  obtain ⟨b6, hb6⟩ : ∃ b, b = V3.heap.size := ⟨_, rfl⟩
  obtain ⟨V, hV⟩ : ∃ V, V = V3.alloc (.cells #[.slice (some ⟨g, 0, none⟩) 0 (4 * N)] 33) := ⟨_, rfl⟩
  have hVs : b6 < V.heap.size := by rw [hV, hb6]; simp
  rw [← hV] at G4 I4 X4 R4 ⊢
  rw [← hb6] at X4 hgV ⊢
  replace hV := Lib.hid hV
  replace hb6 := Lib.hid hb6
  clear t0 t1 t2 t3 B4 O4
  refine ⟨trivial, ?_⟩
  refine (callsIn_wide.2 (spans1 _ _ _ _ _ _)).mono ?_
  rintro e w5 ⟨rfl, rfl⟩
  have bm := (At.new V #[.pointer (some ⟨pm, 0, none⟩)] 27).alloc (.cells #[.int .i64 x0, .int .i64 y0, .int .i64 x1, .int .i64 y1] 32)
  have br := At.newAt (w := V.alloc (.cells #[.pointer (some ⟨pm, 0, none⟩)] 27)) (n := V.heap.size + 1) (by simp) #[.int .i64 x0, .int .i64 y0, .int .i64 x1, .int .i64 y1] 32
  have g5 := (((Gr.refl V).alloc (.cells #[.pointer (some ⟨pm, 0, none⟩)] 27)).alloc (.cells #[.int .i64 x0, .int .i64 y0, .int .i64 x1, .int .i64 y1] 32))
  have I5 := I4.gr g5
  have X5 := X4.gr g5
  have G5 := (G4.trans g5).bl
  have hs5 : ((V.alloc (.cells #[.pointer (some ⟨pm, 0, none⟩)] 27)).alloc (.cells #[.int .i64 x0, .int .i64 y0, .int .i64 x1, .int .i64 y1] 32)).heap.size = V.heap.size + 2 := by simp
  have hlt4 := hI.hd.lt
  have hlt5 := hI.cs.lt
  gi_wp2
  obtain ⟨U, hU⟩ : ∃ U, U = (V.alloc (.cells #[.pointer (some ⟨pm, 0, none⟩)] 27)).alloc (.cells #[.int .i64 x0, .int .i64 y0, .int .i64 x1, .int .i64 y1] 32) := ⟨_, rfl⟩
  rw [← hU] at bm br I5 X5 G5 hs5 ⊢
  clear hU g5 G4 I4 X4 R4
  refine wpIn_rangeFunc_ownG rfl (by omega) (gf := 55) (lb := #[.pointer (some ⟨V.heap.size + 1, 0, none⟩), .pointer (some ⟨V.heap.size, 0, none⟩)]) rfl trivial (enters_of Try.func55 (by kernel_rfl) rfl)
    (spansStops (5 - 1) (by omega) V.heap.size (V.heap.size + 1) _ _ pm pc W H L.length L.length x0 x1 y0 y1 (fun _ => hx) hw (Nat.le_of_lt hy) hh U I5.hd (Nat.le_refl _) I5.len I5.w2 I5.h2 bm br)
    (fun h k => h.trans k) (Keep3.book (by omega) (by omega) (by omega)) (Below.refl _ _) (fun _ => rfl)
    (fun pre V' => Img V' pm pc W H L ∧ BoxB V' w.heap.size b6 g (4 * N) (readR W x0 x1 L (pre.map (·.1))) ∧ w.grownBy V' none ∧ U.heap.size ≤ V'.heap.size)
    (fun _ _ _ => False)
    ((ownImg _ _ _ _ _ _).and ((ownBox _ _ _ _ _ _).and ((ownBy _ (by omega)).and (fun _ X Y row hs hg hr => Nat.le_trans hs hg.size))))
    (fun _ _ _ _ _ hs _ _ => hs)
    ⟨I5, X5, G5.byr _, Nat.le_refl _⟩
    (fun x => { tmps := #[.pointer (some ⟨pm, 0, none⟩), .agg #[.int .i64 x0, .int .i64 y0, .int .i64 x1, .int .i64 y1], undef, .pointer (some ⟨w.heap.size, 0, none⟩), .slice none 0 0, .int .i64 0, .pointer (some ⟨b6, 0, none⟩), undef, .slice (some ⟨pc, x.1 * W + x0, none⟩) (x1 - x0) (L.length - (x.1 * W + x0)), undef, undef, .pointer (some ⟨pm, 0, none⟩), .agg #[.int .i64 x0, .int .i64 y0, .int .i64 x1, .int .i64 y1], .bool true, .bool false, .agg #[.int .i64 x0, .int .i64 y0, .int .i64 x1, .int .i64 y1], .int .i64 N, .int .i64 (4 * (N : Int)), .slice (some ⟨g, 0, none⟩) 0 (4 * N), .pointer (some ⟨pm, 0, none⟩), .agg #[.int .i64 x0, .int .i64 y0, .int .i64 x1, .int .i64 y1], .func (.func 55) #[] #[.pointer (some ⟨V.heap.size + 1, 0, none⟩), .pointer (some ⟨V.heap.size, 0, none⟩)], .int .i64 (x.1 : Int), .slice (some ⟨pc, x.1 * W + x0, none⟩) (x1 - x0) (L.length - (x.1 * W + x0)), undef, undef, undef, undef, undef, undef, undef, undef, undef, undef, undef, undef, undef, undef, undef, undef, undef, undef, undef, undef, undef, undef], defers := [] }) ?assign ?body ?done ?stop
  case assign =>
    intro l x W' K' hK'
    dsimp only [rowV]
    gi_wp2
    exact hK'
  case body =>
    rintro l pre x W' ⟨hi, hx', hb, hsz⟩ hlen
    have hf : readR W x0 x1 L ((pre ++ [x]).map (·.1)) = readR W x0 x1 L (pre.map (·.1)) ++ rowPx L (x.1 * W + x0) (x1 - x0) := by rw [List.map_append]; exact readR_snoc _ _ _ _ _ _
    have hrow : ∀ y : Nat, y < H → y * W + x0 + (x1 - x0) ≤ L.length := fun y hy' => by
      have := row_of (show x1 - 1 < W by omega) hy'
      rw [← hI.len] at this
      omega
    have hp := hrow x.1 x.2
    have hPl := readR_len W x0 x1 L (pre.map (·.1)) (fun y hy' => by
      obtain ⟨z, _, rfl⟩ := List.mem_map.1 hy'
      exact hrow z.1 z.2)
    have hcap : (readR W x0 x1 L (pre.map (·.1))).length + 4 * (x1 - x0) ≤ 4 * N := by
      have h1 := Nat.mul_le_mul_left (x1 - x0) (show pre.length + 1 ≤ y1 - y0 by omega)
      rw [← hN.out, Nat.mul_add, Nat.mul_one] at h1
      rw [hPl, List.length_map]
      omega
    have hle := area_le hI.w2 hI.h2
    rw [← hI.len] at hle
    generalize readR W x0 x1 L (pre.map (·.1)) = P at *
    have hLn := Lib.hid hI.len
    obtain ⟨n, hn⟩ : ∃ n, n = L.length := ⟨_, rfl⟩
    rw [← hn] at hp hle ⊢
    generalize x.1 * W + x0 = p at *
    obtain ⟨m, hm'⟩ : ∃ m, m = x1 - x0 := ⟨_, rfl⟩
    rw [← hm'] at hf hp hcap ⊢
    obtain ⟨cc, hcc⟩ : ∃ cc, cc = n - p := ⟨_, rfl⟩
    have hmc : m ≤ cc := by omega
    rw [← hcc]
    clear hcc hPl hrow hm'
    replace hf := Lib.hid hf
    replace hn := Lib.hid hn
    gi_wp2
    gi_loopw [26, 10] (fun i _ wr => ∃ k : Nat, k ≤ m ∧ i = .int .i64 k ∧ Img wr pm pc W H L ∧ BoxB wr w.heap.size b6 g (4 * N) (P ++ rowPx L p k) ∧ w.grownBy wr none ∧ KeepsOthers W' wr ∧ Keep3 pm V.heap.size (V.heap.size + 1) W' wr) (fun i _ _ => m - (intOf i).toNat)
    case atStart => exact ⟨0, Nat.zero_le _, rfl, hi, by rw [rowPx_zero, List.append_nil]; exact hx', hb, KeepsOthers.refl _, Keep3.refl _ _ _ _⟩
    case round =>
      obtain ⟨k, hk, rfl, Ik, Xk, bk, ok, kk⟩ := hrel
      by_cases hlt : k < m
      · obtain ⟨c, hc⟩ := list_at (l := L) (k := p + k) (by have := hn.out; omega)
        have c1 := Ik.at hc
        have hc32 := h32 c (List.mem_of_getElem? hc)
        have hrs := congrArg (P ++ ·) (rowPx_succ hc)
        rw [← List.append_assoc] at hrs
        have hql : (P ++ rowPx L p k).length + 4 ≤ 4 * N := by
          rw [List.length_append, rowPx_len (by have := hn.out; omega)]; omega
        replace hrs := Lib.hid hrs
        generalize P ++ rowPx L p k = Q at *
        clear hc
        have b0 : wr.cell? ⟨b6, 0, none⟩ = some (.slice (some ⟨g, 0, none⟩) Q.length (4 * N)) := Xk.at_.cell 0
        have hA : c / 16777216 % 256 = c / 16777216 := by unfold C32 at hc32; omega
        have gA := (Gr.refl wr).alloc (.cells #[.int .u8 (c / 16777216), .int .u8 (c / 65536 % 256), .int .u8 (c / 256 % 256), .int .u8 (c % 256)] 5)
        have nA : RowN .u8 (wr.alloc (.cells #[.int .u8 (c / 16777216), .int .u8 (c / 65536 % 256), .int .u8 (c / 256 % 256), .int .u8 (c % 256)] 5)) wr.heap.size 0 (px c) := by
          have q := At.new wr #[.int .u8 (c / 16777216), .int .u8 (c / 65536 % 256), .int .u8 (c / 256 % 256), .int .u8 (c % 256)] 5
          intro i y hy'
          rw [Nat.zero_add, q.cell i]
          match i with
          | 0 => simp [px, pA] at hy'; simp [hy']
          | 1 => simp [px, pR] at hy'; simp [hy']
          | 2 => simp [px, pG] at hy'; simp [hy']
          | 3 => simp [px, pB] at hy'; simp [hy']
          | i + 4 => simp [px] at hy'
        have oA := Xk.own.gr gA
        obtain ⟨i0, hi0, _, hz1, _⟩ := info_parts infoBy
        have hgp : g ≠ pm ∧ g ≠ V.heap.size ∧ g ≠ V.heap.size + 1 ∧ g ≠ pc ∧ b6 ≠ pm ∧ b6 ≠ pc ∧ b6 ≠ V.heap.size ∧ b6 ≠ V.heap.size + 1 := by omega
        gi_wp2_with (gi_at_builtin; refine wpListIn_append_fits _ rfl (.tmp 30) (.tmp 42) 33 rfl w.heap.size 5 i0 1 Try.underlying33 hi0 hz1 g Q.length (4 * N) (Q.map (Value.int .u8)) rfl oA ⟨wr.heap.size, 0, none⟩ 4 4 ((px c).map (Value.int .u8)) rfl (by simp [px]) (rowN_add nA) (one_int _ _) hql ?_; intro w4 own4 by4; have z4 := (Xk.at_.gr gA).kept by4 (by simp; omega); have z40 := z4.cell 0; have z4f := z4.free 0)
        go_roundw
        case rel =>
          have gS := grownBy_setCell' w4 b6 (.slice (some ⟨g, 0, none⟩) (Q.length + 4) (4 * N))
          have hk3 : ∀ j, j < wr.heap.size → j ≠ g → j ≠ b6 → (w4.setCell ⟨b6, 0, none⟩ (.slice (some ⟨g, 0, none⟩) (Q.length + 4) (4 * N))).heap[j]? = wr.heap[j]? := fun j h1 h2 h3 =>
            (gS.block j (Nat.lt_of_lt_of_le h1 (Nat.le_trans gA.size by4.size)) (by simp; omega)).trans ((by4.block j (Nat.lt_of_lt_of_le h1 gA.size) (by simp; omega)).trans (gA.below.block j h1))
          have hpmlt := Ik.hd.lt
          have hws := ok.size
          refine ⟨k + 1, by omega, by simp, ((Ik.gr gA).kept by4 (by simp; omega) (by simp; omega)).kept gS (by simp; omega) (by simp; omega), ?_, by_row (by_row (by_trans bk (gA.by none)) by4 (by omega)) gS (by omega),
            ((ok.trans (KeepsOthers.alloc _ _)).trans (KeepsOthers.of_grownBy by4 (fun j o e ho => by cases e; exact oA.isCells ho))).trans (KeepsOthers.setCell _ _ _),
            kk.trans ⟨hk3 pm hpmlt (by omega) (by omega), hk3 _ (by omega) (by omega) (by omega), hk3 _ (by omega) (by omega) (by omega)⟩⟩
          rw [hrs.out]
          refine ⟨?_, ?_⟩
          · have := z4.put 0 (.slice (some ⟨g, 0, none⟩) (Q.length + 4) (4 * N))
            rw [List.length_append]
            simpa [px] using this
          · have o4 : OwN .u8 5 w4 w.heap.size (some ⟨g, 0, none⟩) (4 * N) (Q ++ px c) := by
              unfold OwN; rw [List.map_append, List.length_append]; exact own4
            exact o4.grown gS (.inr (by simp; omega))
        case measure => simp [intOf]; omega
      · obtain rfl : k = m := by omega
        gi_wp2
        exact ⟨ok.from _, kk, Ik, by rw [hf.out]; exact Xk, bk, Nat.le_trans hsz ok.size⟩
  case done =>
    rintro D ys W' hD hys ⟨hi, hx', hb, hsz⟩ hK'
    rw [hys] at hx'
    obtain ⟨P, hP⟩ : ∃ P, P = readR W x0 x1 L (List.range' y0 (y1 - y0)) := ⟨_, rfl⟩
    rw [← hP] at hx'
    replace hP := Lib.hid hP
    replace hys := Lib.hid hys
    have b0 : W'.cell? ⟨b6, 0, none⟩ = some (.slice (some ⟨g, 0, none⟩) P.length (4 * N)) := hx'.at_.cell 0
    gi_wp2
    refine ⟨by simp, .inl ⟨_, _, rfl, run_takeDeferred hK', ?_⟩⟩
    have gP := grownBy_putObj' W' D (.deferred none)
    have hDw : w.heap.size ≤ D := by omega
    refine ⟨_, results_tmp2 rfl _ _ _, some ⟨g, 0, none⟩, 4 * N, by rw [← hP.out]; rfl, .inr ⟨g, 0, rfl, ?_⟩, by_bl (by_row hb gP hDw), by rw [← hP.out]; exact hx'.own.cap, by omega⟩
    rw [← hP.out]
    exact (hx'.own.turn gP (fun r e => by cases e; exact ⟨_, hK', rfl⟩)).row
  case stop =>
    rintro D c pre W' _ _ h _
    exact h.elim

theorem iread1 {pm pc W H : Nat} {L : List Int} (w : World) (hI : Img w pm pc W H L) (h32 : ∀ c ∈ L, C32 c) (x0 y0 x1 y1 : Nat) (hx : x0 < x1) (hw : x1 ≤ W) (hy : y0 < y1) (hh : y1 ≤ H) :
    Calls Try.prog 21 #[.pointer (some ⟨pm, 0, none⟩), .agg #[.int .i64 x0, .int .i64 y0, .int .i64 x1, .int .i64 y1]] w
      (fun e w' => ∃ (A : Option Addr) (c : Nat), e = .returned (.tuple #[.slice A (readR W x0 x1 L (List.range' y0 (y1 - y0))).length c, .int .i64 0]) ∧ Ns .u8 w' A (readR W x0 x1 L (List.range' y0 (y1 - y0))) ∧ Bl w w') :=
  (iread1c w hI h32 x0 y0 x1 y1 hx hw hy hh).mono fun _ _ ⟨A, c, he, hN, hb, _⟩ => ⟨A, c, he, hN, hb⟩

set_option maxRecDepth 100000 in
theorem iread0 {pm pc W H : Nat} {L : List Int} (w : World) (hI : Img w pm pc W H L) (a b c d : Int) (hn : (!emptyB a b c d && coversB 0 0 W H a b c d) = false) :
    Calls Try.prog 21 #[.pointer (some ⟨pm, 0, none⟩), .agg #[.int .i64 a, .int .i64 b, .int .i64 c, .int .i64 d]] w
      (Rt w (.tuple #[.slice none 0 0, .int .i64 4])) := by
  have ch := fun (V : World) (h : Img V pm pc W H L) => hasAll1 V h a b c d
  rw [hn] at ch
  have G0 := (Gr.refl w).alloc (.cells #[.int .i64 a, .int .i64 b, .int .i64 c, .int .i64 d] 32)
  clear hn
  go_enter Try.func21, Try.ntmps21
  go_wp2_with fail
  refine (ch _ (hI.gr G0)).mono ?_
  rintro e w1 ⟨rfl, g1⟩
  go_wp2
  go_ret2
  exact ⟨rfl, G0.trans g1⟩

end Go.Proofs.Ytmaondghfncjoaa
