/-
  What is proved: the statement ImageRows: all rows are told, one by one, as they are; a row that is changed changes nothing. No conditions.
-/
import Derived.Test.YtmaondghfncjoaaRy
import Derived.Test.YtmaondghfncjoaaRr
import Derived.Test.YtmaondghfncjoaaIb2
import Derived.Test.YtmaondghfncjoaaIg
import Derived.Test.YtmaondghfncjoaaIk
import Derived.Test.YtmaondghfncjoaaIl
import Derived.Handy
namespace Go.Proofs.Ytmaondghfncjoaa
open Go.ChangeShapes Go.WideShapes Go.ChangeAt Go.RowKit Go.Joins Go.Sort Go.Shelf Go.Deep

attribute [local go_sem] Oper.semAt_some

theorem seq_nil (f : Nat) (cap : Array Value) (w : World) : (binOp .eql 62 (.func (.func f) #[] cap) .nilFunc).run Try.prog w = .ok (.bool false) w := by
  have h : ∀ d : Nat, (Op.equalIn (d + 1) 62 (.func (.func f) #[] cap) .nilFunc).run Try.prog w = .ok false w := fun d => by
    simp [Op.equalIn, run_underlying Try.underlying62]
  simp only [binOp]
  simp [Op.equal, Op.maxDepth, h 9999]
/-- A row whose first colors are turned to 1. -/
def onesL (k : Nat) (R : List Int) : List Int := List.replicate k 1 ++ R.drop k
theorem onesL_zero (R : List Int) : onesL 0 R = R := by simp [onesL]
theorem onesL_len {k : Nat} {R : List Int} (h : k ≤ R.length) : (onesL k R).length = R.length := by simp [onesL]; omega
theorem onesL_get {k : Nat} {R : List Int} (_h : k < R.length) : (onesL k R)[k]? = R[k]? := by
  unfold onesL
  rw [List.getElem?_append_right (by simp)]
  simp
theorem onesL_set {k : Nat} {R : List Int} (h : k < R.length) : (onesL k R).set k 1 = onesL (k + 1) R := by
  unfold onesL
  rw [List.set_append_right _ _ (by simp), List.length_replicate, Nat.sub_self, List.drop_eq_getElem_cons h, List.set_cons_zero, List.replicate_succ']
  simp
theorem idx_ww {y W x : Nat} (h : y * W + x ≤ 1000000) : IntKind.i64.wrap ((y : Int) * (W : Int)) = ((y * W : Nat) : Int) ∧ IntKind.i64.wrap (((y * W : Nat) : Int) + (x : Int)) = ((y * W + x : Nat) : Int) ∧ wrap64 ((y : Int) * (W : Int)) = ((y * W : Nat) : Int) ∧ wrap64 (((y * W : Nat) : Int) + (x : Int)) = ((y * W + x : Nat) : Int) :=
  ⟨by rw [← Int.natCast_mul]; exact IntWalk.i64_in _ (by omega), by rw [← Int.natCast_add]; exact IntWalk.i64_in _ (by omega), by rw [← Int.natCast_mul]; exact w64 (by omega) (by omega), by rw [← Int.natCast_add]; exact w64 (by omega) (by omega)⟩
theorem one_w {m : Nat} (h : m ≤ 1000000) : wrap64 ((m : Int) + 1) = (m : Int) + 1 := w64 (by omega) (by omega)
theorem bl_any {β : Type} {B : Nat} {w0 : World} (h : w0.heap.size ≤ B) : AnyFrom B (fun (_ : β) W => Bl w0 W) := fun _ _ _ _ hs hg hr => Bl.grown hs hg (fun k hk => Nat.le_trans h (hr k hk))
theorem at_any {β : Type} {B b : Nat} (hb : b < B) (cs : β → Array Value) (t : TypeId) : AnyFrom B (fun s W => At W b (cs s) t) := fun _ _ _ _ hs hg hr => hs.kept hg (fun e => by have := hr b e.symm; omega)

theorem img_any {β : Type} {B pm pc W H : Nat} {L : List Int} (h1 : pm < B) (h2 : pc < B) : AnyFrom B (fun (_ : β) V => Img V pm pc W H L) := fun _ _ _ _ hs hg hr => hs.kept hg (fun e => by have := hr pm e.symm; omega) (fun e => by have := hr pc e.symm; omega)
theorem At.not_walk {w : World} {b : Nat} {cs : Array Value} {t : TypeId} (h : At w b cs t) {o : Obj} (ho : w.heap[b]? = some o) : o.isCells = true := by
  rw [show w.heap[b]? = _ from h] at ho
  cases ho; rfl

set_option maxRecDepth 100000 in
set_option maxHeartbeats 8000000 in
theorem irows_walk (x y : Int) (A : Option Addr) (ca : Nat) (a : List Int) (w : World) (hx : I64 x) (hy : I64 y) (hA : Ns .u32 w A a) (h32 : ∀ c ∈ a, C32 c) (hca : a.length ≤ ca) (hcm : ca ≤ maxLen) :
    Calls Try.prog 5 #[.int .i64 x, .int .i64 y, .slice A a.length ca] w (fun e w' => e = .returned (.bool true) ∧ Bl w w') := by
  obtain ⟨s1, s2, hs3⟩ := side_bd x
  obtain ⟨t1, t2, ht3⟩ := side_bd y
  clear hs3 ht3
  have G0 := (Gr.refl w).alloc (.cells #[.bool false] 4)
  have E0 := At.new w #[.bool false] 4
  have cg := mgood1 x y A ca a _ (hA.bl G0.bl) h32 hca hcm hx hy
  have hFl := goodL_len (side x * side y) a
  have hFm := goodL_may (side x * side y) a
  generalize side x = W at *
  generalize side y = H at *
  generalize goodL (W * H) a = F at *
  have hF32 : ∀ c ∈ F, C32 c := fun c hc => (hFm c hc).1
  have cb1 := fun (b : Nat) (w : World) (h : RowN .u32 w b 0 F) => build1 (c := W * H) w h hFl s1 (by omega) t1 (by omega) hFm
  have cL := fun (pm pc b : Nat) (w : World) (hI : Img w pm pc W H F) (h : RowN .u32 w b 0 F) => like1 (c := W * H) w hI h
  rw [hFl] at cb1 cL
  have hWH := Nat.mul_le_mul s2 t2
  obtain ⟨n, hn⟩ : ∃ n, n = W * H := ⟨_, rfl⟩
  rw [← hn] at cg cb1 cL hWH
  replace hn := Lib.hid hn
  replace hFl := Lib.hid hFl
  generalize a.length = la at *
  have mixed : Try.prog.follows .mixedOrders = true := by kernel_rfl
  refine (callsIn_wide (n := 9)).1 ?_
  refine callsIn_of_wp_marks Try.func5 rfl trivial ?_ rfl
  simp only [Try.ntmps5, List.size_toArray, List.length_cons, List.length_nil, Nat.reduceAdd, Nat.reduceSub, Array.replicate_succ, Array.replicate_zero, List.push_toArray, List.append_toArray, List.nil_append, List.cons_append]
  gi_wp2_with fail
  refine ⟨trivial, ?_⟩
  refine (callsIn_wide.2 cg).mono ?_
  rintro e v1 ⟨b, rfl, C1, hb1, g1⟩
  replace E0 := E0.bl g1
  replace G0 := G0.bl.trans g1
  have M1 := At.new v1 #[.int .i64 W, .int .i64 H, .slice (some ⟨b, 0, none⟩) n n] 25
  replace C1 := C1.alloc (.cells #[.int .i64 W, .int .i64 H, .slice (some ⟨b, 0, none⟩) n n] 25)
  replace E0 := E0.alloc (.cells #[.int .i64 W, .int .i64 H, .slice (some ⟨b, 0, none⟩) n n] 25)
  replace G0 := G0.alloc (.cells #[.int .i64 W, .int .i64 H, .slice (some ⟨b, 0, none⟩) n n] 25)
  clear cg g1 hb1
  gi_wp2_with fail
  refine ⟨trivial, ?_⟩
  refine (callsIn_wide.2 (cb1 _ _ C1.rowC)).mono ?_
  rintro e v2 ⟨pm, pc, rfl, I2, _, _, g2⟩
  replace M1 := M1.bl g2
  replace C1 := C1.bl g2
  replace E0 := E0.bl g2
  replace G0 := G0.trans g2
  clear g2 cb1
  obtain ⟨bM, hbM⟩ : ∃ bM, bM = v1.heap.size := ⟨_, rfl⟩
  rw [← hbM] at M1 ⊢
  replace hbM := Lib.hid hbM
  gi_wp2_with fail
  refine ⟨trivial, ?_⟩
  refine (callsIn_wide.2 (rows1 v2 I2.x)).mono ?_
  rintro e v3 ⟨bn, p2, c2, Y, rfl, N3, I3, hbn, hp2, hc2, g3⟩
  have lE0 := (E0.bl g3).lt
  have lM0 := (M1.bl g3).lt
  have lC0 := (C1.bl g3).lt
  have lI0 := (I2.bl g3).hd.lt
  have lI1 := (I2.bl g3).cs.lt
  have lY0 := I3.hd.lt
  have lY1 := I3.cs.lt
  have hfn := fun cap w => seq_nil 52 cap w
  have gA := (Gr.refl v3).alloc (.cells #[.int .i64 0] 3)
  have Z4 := At.new v3 #[.int .i64 0] 3
  have M4 := (M1.bl g3).gr gA
  have C4 := (C1.bl g3).gr gA
  have E4 := (E0.bl g3).gr gA
  have G4 := (G0.trans g3).gr gA
  have I4 := (I2.bl g3).gr gA
  have N4 := N3.gr gA
  have J4 := I3.gr gA
  gi_wp2
  clear hfn M1 C1 E0 G0 I2 N3 I3 g3 hbn
  have hsU : (v3.alloc (.cells #[.int .i64 0] 3)).heap.size = v3.heap.size + 1 := by simp
  obtain ⟨U, hU⟩ : ∃ U, U = v3.alloc (.cells #[.int .i64 0] 3) := ⟨_, rfl⟩
  rw [← hU] at Z4 M4 C4 E4 G4 I4 N4 J4 hsU ⊢
  clear hU gA
  refine range_runs (n := 9) (by omega) (gf := 52) (lb := #[.pointer (some ⟨bn, 0, none⟩)]) rfl (enters_of Try.func52 (by kernel_rfl) rfl)
    (fun o o' => rowsRunsB (U.heap.size + 2) bn p2 c2 W H F Y _ ((U.alloc o).alloc o') (by simp) ((N4.alloc o).alloc o') ((J4.gr ((Gr.refl U).alloc o)).gr ((Gr.refl _).alloc o')))
    (fun _ => rfl) (fun _ => by have := J4.hd.lt; have := J4.cs.lt; omega)
    (fun pre V => At V w.heap.size #[.bool false] 4 ∧ At V bM #[.int .i64 W, .int .i64 H, .slice (some ⟨b, 0, none⟩) n n] 25 ∧ At V b (cC F) 30 ∧ At V v3.heap.size #[.int .i64 (pre.length : Nat)] 3 ∧ Bl w V ∧ Img V pm pc W H F)
    ((at_any (by omega) _ _).and ((at_any (by omega) _ _).and ((at_any (by omega) _ _).and ((at_any (by omega) _ _).and ((bl_any (by have := G4.size; omega)).and (img_any (by omega) (by omega)))))))
    ⟨E4, M4, C4, (show At U v3.heap.size #[.int .i64 (([] : List (Fin H × Nat)).length : Nat)] 3 from Z4), G4, I4⟩
    (fun pre s X Y' row hs hg hr => ⟨hs.1, hs.2.1, hs.2.2.kept hg (fun e => by obtain ⟨_, o, ho, hc⟩ := hr _ e.symm; rw [show X.heap[_]? = _ from hs.2.2] at ho; cases ho; cases hc)⟩)
    (fun x9 => { tmps := #[.int .i64 x, .int .i64 y, .slice A la ca, undef, undef, undef, .pointer (some ⟨w.heap.size, 0, none⟩), .pointer (some ⟨bM, 0, none⟩), .pointer (some ⟨pm, 0, none⟩), .func (.func 52) #[] #[.pointer (some ⟨bn, 0, none⟩)], .pointer (some ⟨v3.heap.size, 0, none⟩), .int .i64 (x9.1.1 : Int), .slice (some ⟨x9.2, 0, none⟩) W W, undef, .int .i64 x, .int .i64 y, .slice A la ca, .agg #[.int .i64 W, .int .i64 H, .slice (some ⟨b, 0, none⟩) n n], .agg #[.int .i64 W, .int .i64 H, .slice (some ⟨b, 0, none⟩) n n], .pointer (some ⟨pm, 0, none⟩), .pointer (some ⟨pm, 0, none⟩), .bool false, .pointer (some ⟨pm, 0, none⟩), .func (.func 52) #[] #[.pointer (some ⟨bn, 0, none⟩)], .func (.func 52) #[] #[.pointer (some ⟨bn, 0, none⟩)], .bool false, .func (.func 52) #[] #[.pointer (some ⟨bn, 0, none⟩)], .int .i64 (x9.1.1 : Int), .slice (some ⟨x9.2, 0, none⟩) W W, undef, undef, undef, undef, undef, undef, undef, undef, undef, undef, undef, undef, undef, undef, undef, undef, undef, undef, undef, undef, undef, undef, undef, undef, undef, undef, undef, undef, undef, undef, undef, undef, undef, undef, undef, undef, undef, undef, undef, undef, undef, undef, undef, undef, undef, undef, undef, undef, undef, undef, undef, undef, undef, undef], defers := [] }) ?assign ?body ?done
  case assign =>
    intro l x9 W' K' hK'
    dsimp only [rowE]
    gi_wp2
    exact hK'
  case body =>
    rintro l pre ⟨⟨ny, hyH⟩, g⟩ V ⟨zE, zM, zC, zN, zB, zI⟩ ⟨hyp, hgB, rA⟩
    dsimp only at hyp hgB rA ⊢
    obtain ⟨m, hm⟩ : ∃ m, m = pre.length := ⟨_, rfl⟩
    rw [← hm] at hyp zN
    subst ny
    obtain ⟨R, hR⟩ : ∃ R, R = rowL W F m := ⟨_, rfl⟩
    rw [← hR] at rA
    have hrow := row_of (show W - 1 < W by omega) hyH
    rw [← hFl.out] at hrow
    have hRl : R.length = W := by rw [hR]; unfold rowL; rw [List.length_take, List.length_drop]; omega
    have hget : ∀ k, k < W → ∃ c, R[k]? = some c ∧ F[m * W + k]? = some c := fun k hk => by
      obtain ⟨c, hc⟩ : ∃ c, F[m * W + k]? = some c := list_at (by omega)
      exact ⟨c, by rw [hR]; unfold rowL; rw [List.getElem?_take_of_lt hk, List.getElem?_drop]; exact hc, hc⟩
    have hmW : m * W + W ≤ n := by rw [hn.out, ← hFl.out]; omega
    have hsm : ∀ k : Nat, k < W → m * W + k ≤ 1000000 := fun k hk => by omega
    have e1 := (idx_ww (hsm 0 s1)).1
    have e0 := (idx_ww (hsm 0 s1)).2.2.1
    have e2 : ∀ k : Nat, k < W → IntKind.i64.wrap (((m * W : Nat) : Int) + (k : Int)) = ((m * W + k : Nat) : Int) := fun k hk => (idx_ww (hsm k hk)).2.1
    have e3 : ∀ k : Nat, k < W → wrap64 (((m * W : Nat) : Int) + (k : Int)) = ((m * W + k : Nat) : Int) := fun k hk => (idx_ww (hsm k hk)).2.2.2
    clear hsm
    have q1 : ¬ (H : Int) ≤ (m : Int) := by omega
    have q2 : (m : Int) < (H : Int) := by omega
    obtain ⟨m0, m1, m2⟩ := cells3 zM
    have z0 : V.cell? ⟨v3.heap.size, 0, none⟩ = some (.int .i64 m) := zN.cell 0
    have ne1 : some bM ≠ some g := by simp; omega
    have ne2 : some b ≠ some g := by simp; omega
    have ne3 : some v3.heap.size ≠ some g := by simp; omega
    have ne4 : some w.heap.size ≠ some g := by simp; omega
    have ne5 : some pm ≠ some g := by simp; omega
    have ne6 : some pc ≠ some g := by simp; omega
    have nz1 : w.heap.size ≠ v3.heap.size := by omega
    have nz2 : bM ≠ v3.heap.size := by omega
    have nz3 : b ≠ v3.heap.size := by omega
    have nz4 : pm ≠ v3.heap.size := by omega
    have nz5 : pc ≠ v3.heap.size := by omega
    replace hm := Lib.hid hm
    replace hR := Lib.hid hR
    replace hRl := Lib.hid hRl
    replace hget := Lib.hid hget
    replace e0 := Lib.hid e0
    replace e1 := Lib.hid e1
    replace e2 := Lib.hid e2
    replace e3 := Lib.hid e3
    generalize m * W = mw at *
    gi_wp2
    clear m0 m1 m2 z0
    gi_loopw [13] (fun i wr => ∃ k : Nat, k ≤ W ∧ i = .int .i64 k ∧ V.grownBy wr (some g) ∧ At wr g (cC (onesL k R)) 30) (fun i _ => W - (intOf i).toNat)
    case atStart => exact ⟨0, Nat.zero_le _, rfl, (Bl.refl V).byr _, by rw [onesL_zero]; exact rA⟩
    case round =>
      obtain ⟨k, hk, rfl, gk, ak⟩ := hrel
      obtain ⟨m0, m1, m2⟩ := cells3 (zM.kept gk ne1)
      by_cases hlt : k < W
      · have q3 : (k : Int) < (W : Int) := by omega
        obtain ⟨c, hc1, hc2⟩ := hget.out k hlt
        have c1 : wr.cell? ⟨g, k, none⟩ = some (.int .u32 c) := by rw [ak.cell, cC_get, onesL_get (by rw [hRl.out]; exact hlt), hc1]; rfl
        have c2 : wr.cell? ⟨b, mw + k, none⟩ = some (.int .u32 c) := by have := (zC.kept gk ne2).rowC (mw + k) c hc2; rwa [Nat.zero_add] at this
        have q4 : mw + k < n := by omega
        have e0k := e0.out
        have e1k := e1.out
        have e2k := e2.out k hlt
        have e3k := e3.out k hlt
        obtain ⟨jx, hjx⟩ : ∃ jx, jx = mw + k := ⟨_, rfl⟩
        rw [← hjx] at c2 q4 e2k e3k
        clear hjx
        have q5 : (jx : Int) < (n : Int) := Int.ofNat_lt.2 q4
        clear hc1 hc2
        gi_wp2
        rename_i K hK
        refine wpIn_mono (Q := Exit.then K (fun _ _ _ => False)) ?_ then_false
        refine wpIn_region_round_quiet mixed (by kernel_rfl) (by kernel_rfl) (fun ⟨_, _, h⟩ => h) ?_
        repeat (first | go_big_quiet_step (fail) | quiet_step (fail))
        refine wpQuiet_nil ?_
        rintro w' ⟨dq, rfl⟩
        refine hK _ _ ?_
        have g' := (Gr.refl wr).drewN dq
        have ak' := ak.gr g'
        have f1 := ak'.free k
        have d1 : (wr.drewN dq).cell? ⟨g, k, none⟩ = some (.int .u32 c) := c1
        clear hK c1 c2 e0k e1k e2k e3k m0 m1 m2
        gi_wp2
        go_roundw
        case rel =>
          refine ⟨k + 1, by omega, by simp, by_set (p := ⟨g, k, none⟩) (by_gr gk g') _, ?_⟩
          have := ak'.put k (.int .u32 1)
          rw [cC_set, onesL_set (by rw [hRl.out]; exact hlt)] at this
          exact this
        case measure => simp [intOf]; omega
      · obtain rfl : k = W := by omega
        have z0 : wr.cell? ⟨v3.heap.size, 0, none⟩ = some (.int .i64 m) := (zN.kept gk ne3).cell 0
        have z1 := (zN.kept gk ne3).free 0
        have e5 : (m : Int) + 1 ≤ 100 := by omega
        clear q1 q2
        gi_wp2
        have zN' := (zN.kept gk ne3).put 0 (.int .i64 ((m : Int) + 1))
        have hpl : (pre ++ [((⟨m, hyH⟩ : Fin H), g)]).length = m + 1 := by rw [List.length_append, ← hm.out]; rfl
        refine ⟨((KeepsOthers.of_grownBy gk (fun j o e ho => by cases e; exact rA.not_walk ho)).trans (KeepsOthers.setCell _ _ _)).from _, ⟨Nat.le_trans gk.size (by simp), fun j hj hK => ?_⟩, (zE.kept gk ne4).far (p := ⟨v3.heap.size, 0, none⟩) nz1 _, (zM.kept gk ne1).far (p := ⟨v3.heap.size, 0, none⟩) nz2 _, (zC.kept gk ne2).far (p := ⟨v3.heap.size, 0, none⟩) nz3 _, ?_, (Bl.grown zB gk (fun j e => by cases e; omega)).setCell (p := ⟨v3.heap.size, 0, none⟩) (by simp; omega) _, ?_⟩
        · refine (Below.heap_setCell _ _ _ _ (by simp; omega)).trans (gk.block j hj (by simp; omega))
        · rw [hpl]
          simpa using zN'
        · have zI' := zI.kept gk ne5 ne6
          exact { zI' with hd := zI'.hd.far (p := ⟨v3.heap.size, 0, none⟩) nz4 _, cs := zI'.cs.far (p := ⟨v3.heap.size, 0, none⟩) nz5 _ }
  case done =>
    rintro D xs W' hD hxs ⟨zE, zM, zC, zN, zB, zI⟩ hK'
    have hlen : xs.length = H := by have := congrArg List.length hxs; simpa using this
    rw [hlen] at zN
    have hxs' := Lib.hid hxs
    have hlen' := Lib.hid hlen
    clear hxs hlen
    obtain ⟨m0, m1, m2⟩ := cells3 zM
    have z0 : W'.cell? ⟨v3.heap.size, 0, none⟩ = some (.int .i64 H) := zN.cell 0
    gi_wp2_with fail
    refine ⟨trivial, ?_⟩
    refine (callsIn_wide.2 (cL pm pc b W' zI zC.rowC)).mono ?_
    rintro e w5 ⟨rfl, g5⟩
    gi_wp2_with fail
    refine ⟨trivial, ?_⟩
    refine (callsIn_wide.2 (ilives1 w5)).mono ?_
    rintro e w6 ⟨rfl, g6⟩
    have G6 : Bl W' w6 := g5.bl.trans g6
    have hK6 : w6.heap[D]? = some (.deferred (some [])) := (Below.block G6 D (Array.getElem?_eq_some_iff.1 hK').1).trans hK'
    have zE6 := zE.bl G6
    have zB6 := zB.trans G6
    have r0 : w6.cell? ⟨w.heap.size, 0, none⟩ = some (.bool false) := zE6.cell 0
    have r1 := zE6.free 0
    clear m0 m1 m2 z0
    gi_wp2
    have hX := zE6.put 0 (.bool true)
    simp at hX
    have hbX := zB6.setCell (p := ⟨w.heap.size, 0, none⟩) (Nat.le_refl _) (.bool true)
    have hKX : (w6.setCell ⟨w.heap.size, 0, none⟩ (.bool true)).heap[D]? = some (.deferred (some [])) := (Below.heap_setCell _ _ _ _ (by simp; omega)).trans hK6
    generalize w6.setCell ⟨w.heap.size, 0, none⟩ (.bool true) = X at hX hbX hKX ⊢
    refine ⟨by simp, .inl ⟨_, _, rfl, run_takeDeferred hKX, ?_⟩⟩
    have hgp := grownBy_putObj' X D (.deferred none)
    have c5 : (X.putObj D (.deferred none)).cell? ⟨w.heap.size, 0, none⟩ = some (.bool true) := (hX.kept hgp (by simp; omega)).cell 0
    refine ⟨.bool true, ?_, rfl, ?_⟩
    · simp [results, Try.results5, go_sem, c5]
    · exact Bl.grown hbX hgp (fun j e => by cases e; omega)

end Go.Proofs.Ytmaondghfncjoaa
