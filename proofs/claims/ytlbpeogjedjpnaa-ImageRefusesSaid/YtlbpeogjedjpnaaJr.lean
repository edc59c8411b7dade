/-
  What is proved: the statement ImageRefuses: a Write that is refused changes nothing. No conditions.
-/
import Derived.Test.YtlbpeogjedjpnaaIn
import Derived.Test.YtlbpeogjedjpnaaIy
import Derived.Test.YtlbpeogjedjpnaaId
import Derived.Deep.RegionHeld3
namespace Go.Proofs.Ytlbpeogjedjpnaa
open Go.ChangeShapes Go.WideShapes Go.ChangeAt Go.RowKit Go.Joins Go.Sort

/-- The cells of bytes. -/
def cY (L : List Int) : Array Value := (L.map (Value.int .u8)).toArray
theorem madeY (n : Nat) : madeCells #[Value.int .u8 0] n = cY (List.replicate n 0) := by
  apply Array.ext
  · simp [madeCells, cY]
  · intro i h1 h2; simp [madeCells, cY, Nat.mod_one]
theorem makeY (n : Nat) (h : n ≤ 1000000000) (w : World) : (Instr.makeSlice 33 (.int .i64 n) (.int .i64 n)).run Try.prog w =
    .ok (.slice (some ⟨w.heap.size, 0, none⟩) n n) (w.alloc (.cells (cY (List.replicate n 0)) 5)) := by
  obtain ⟨i0, hi, hz0, hz1, hz2⟩ := info_parts infoB
  have := run_make (P := Try.prog) w 33 5 i0 _ Try.underlying33 hi hz0 .i64 .i64 n n (by omega) (Int.le_refl _) (by rw [hz2]; omega) (by omega)
  rw [this, hz1]
  have e : madeCells (Value.int .u8 0).cells n = cY (List.replicate n 0) := madeY n
  simp [e]
theorem cY_get (L : List Int) (k : Nat) : (cY L)[k]? = L[k]?.map (Value.int .u8) := by simp [cY]
theorem cY_set (L : List Int) (k : Nat) (c : Int) : (cY L).setIfInBounds k (.int .u8 c) = cY (L.set k c) := by
  apply Array.ext_getElem?
  intro i
  rw [cY_get, Array.getElem?_setIfInBounds, List.getElem?_set, cY_get]
  have hs : (cY L).size = L.length := by simp [cY]
  rw [hs]
  split
  · split <;> simp_all
  · rfl
theorem At.rowY {w : World} {b : Nat} {L : List Int} {t : TypeId} (h : At w b (cY L) t) : RowN .u8 w b 0 L := fun i x hi => by
  rw [Nat.zero_add, h.cell i, cY_get, hi]; rfl
theorem cut_in {x0 y0 x1 y1 W H : Nat} (hx : y0 < y1 → x0 < x1) (hw : x1 ≤ W) (hh : y1 ≤ H) : (!emptyB x0 y0 x1 y1 && coversB 0 0 W H x0 y0 x1 y1) = decide (y0 < y1) := by
  rw [Bool.eq_iff_iff]
  simp [emptyB, coversB]
  omega
theorem Gr.put4 {a w : World} (h : Gr a w) {k : Nat} (hk : a.heap.size ≤ k) (u0 u1 u2 u3 : Value) : Gr a ((((w.setCell ⟨k, 0, none⟩ u0).setCell ⟨k, 1, none⟩ u1).setCell ⟨k, 2, none⟩ u2).setCell ⟨k, 3, none⟩ u3) :=
  (((h.setCell (p := ⟨k, 0, none⟩) hk u0).setCell (p := ⟨k, 1, none⟩) hk u1).setCell (p := ⟨k, 2, none⟩) hk u2).setCell (p := ⟨k, 3, none⟩) hk u3
theorem area_nat {x0 y0 x1 y1 W H : Nat} (hx0 : x0 ≤ x1) (hw : x1 ≤ W) (hy : y0 ≤ y1) (hh : y1 ≤ H) (w2 : W ≤ 16) (h2 : H ≤ 16) : ∃ N : Nat, areaI x0 y0 x1 y1 = (N : Int) ∧ N ≤ 256 := by
  refine ⟨(x1 - x0) * (y1 - y0), ?_, ?_⟩
  · unfold areaI; rw [Int.natCast_mul, Int.natCast_sub hx0, Int.natCast_sub hy]
  · have := Nat.mul_le_mul (show x1 - x0 ≤ 16 by omega) (show y1 - y0 ≤ 16 by omega); omega
theorem area_pos {x0 y0 x1 y1 N : Nat} (hx0 : x0 ≤ x1) (hx : y0 < y1 → x0 < x1) (hy : y0 ≤ y1) (h : areaI x0 y0 x1 y1 = (N : Int)) : (N = 0 ↔ ¬ y0 < y1) := by
  have e : N = (x1 - x0) * (y1 - y0) := by
    have : ((((x1 - x0) * (y1 - y0) : Nat)) : Int) = N := by rw [← h]; unfold areaI; rw [Int.natCast_mul, Int.natCast_sub hx0, Int.natCast_sub hy]
    omega
  rw [e]
  constructor
  · intro h1 h2
    have := Nat.mul_pos (show 0 < x1 - x0 by have := hx h2; omega) (show 0 < y1 - y0 by omega)
    omega
  · intro h1
    rw [show y1 - y0 = 0 by omega, Nat.mul_zero]

set_option maxRecDepth 100000 in
set_option maxHeartbeats 4000000 in
theorem irefuses_walk (x y : Int) (A : Option Addr) (ca : Nat) (a : List Int) (ra rb rc rd : Int) (how : Int) (Ab : Option Addr) (cb nb : Nat) (w : World) (hx : I64 x) (hy : I64 y) (hA : Ns .u32 w A a) (h32 : ∀ c ∈ a, C32 c) (hca : a.length ≤ ca) (hcm : ca ≤ maxLen) (h1 : I64 ra) (h2 : I64 rb) (h3 : I64 rc) (h4 : I64 rd) (hhow : I64 how) :
    Calls Try.prog 10 #[.int .i64 x, .int .i64 y, .slice A a.length ca, .agg #[.int .i64 ra, .int .i64 rb, .int .i64 rc, .int .i64 rd], .int .i64 how, .slice Ab nb cb] w (fun e w' => e = .returned (.bool true) ∧ Bl w w') := by
  obtain ⟨s1, s2, hs3⟩ := side_bd x
  obtain ⟨t1, t2, ht3⟩ := side_bd y
  clear hs3 ht3
  have G0 := (Gr.refl w).alloc (.cells #[.int .i64 ra, .int .i64 rb, .int .i64 rc, .int .i64 rd] 32)
  have E0 := At.new w #[.int .i64 ra, .int .i64 rb, .int .i64 rc, .int .i64 rd] 32
  have cg := mgood1 x y A ca a _ (hA.bl G0.bl) h32 hca hcm hx hy
  have hFl := goodL_len (side x * side y) a
  have hFm := goodL_may (side x * side y) a
  generalize side x = W at *
  generalize side y = H at *
  generalize goodL (W * H) a = F at *
  have cs := fun w => small1 ra rb rc rd w h1 h2 h3 h4
  generalize smallR ra rb rc rd = sm at *
  obtain ⟨sa, sb, sc, sd⟩ := sm
  dsimp only at cs
  have cc := fun w => refcutR1 sa sb sc sd 0 0 W H w
  obtain ⟨x0, y0, x1, y1, hcut, hx0, hxx, hw, hyy, hh, _⟩ := cut_nat sa sb sc sd W H
  rw [hcut] at cc
  dsimp only at cc
  clear hcut
  obtain ⟨N, hN, hN2⟩ := area_nat hx0 hw hyy hh (by omega) (by omega)
  have hpos := area_pos hx0 hxx hyy hN
  have hin := cut_in hxx hw hh
  have hmay : mayB x0 y0 x1 y1 = true := by simp [mayB]; omega
  have car := fun w => refarea1 x0 y0 x1 y1 w hmay
  have cWR := fun (pm pc : Nat) (w : World) (h : Img w pm pc W H F) (hz : ¬ y0 < y1) => writeR w h x0 y0 x1 y1 Ab nb cb (by rw [hin]; simpa using hz)
  have cWL := fun (pm pc : Nat) (w : World) (h : Img w pm pc W H F) (hz : y0 < y1) A n c hn v hv => writeL w h x0 y0 x1 y1 A n c (by rw [hin]; simpa using hz) hn v hv
  have cWA := fun (pm pc : Nat) (w : World) (h : Img w pm pc W H F) (hz : y0 < y1) A bs c => writeA w h x0 y0 x1 y1 A bs c (by rw [hin]; simpa using hz)
  rw [hN] at car
  simp only [hN] at cWL cWA
  clear hmay hin hN hh hyy hw hx0 hxx
  have cb1 := fun (b : Nat) (w : World) (h : RowN .u32 w b 0 F) => build1 (c := W * H) w h hFl s1 (by omega) t1 (by omega) hFm
  have ck := fun (pm pc b c : Nat) (w : World) (h : Img w pm pc W H F) (h2 : RowN .u32 w b 0 F) => like1 (c := c) w h h2
  rw [hFl] at cb1 ck
  have hWH := Nat.mul_le_mul s2 t2
  obtain ⟨n, hn⟩ : ∃ n, n = W * H := ⟨_, rfl⟩
  rw [← hn] at cg cb1 ck hWH
  clear hn hFl
  generalize a.length = la at *
  have mixed : Try.prog.follows .mixedOrders = true := by kernel_rfl
  have hpos' := Lib.hid hpos
  clear hpos
  go_enter Try.func10, Try.ntmps10
  go_wp2_with fail
  refine cg.mono ?_
  rintro e v1 ⟨b, rfl, C1, hb1, g1⟩
  replace E0 := E0.bl g1
  replace G0 := G0.bl.trans g1
  simp at hb1
  have hEw := E0.lt
  have hCl := C1.lt
  have M1 := At.new v1 #[.int .i64 W, .int .i64 H, .slice (some ⟨b, 0, none⟩) n n] 25
  replace C1 := C1.alloc (.cells #[.int .i64 W, .int .i64 H, .slice (some ⟨b, 0, none⟩) n n] 25)
  replace E0 := E0.alloc (.cells #[.int .i64 W, .int .i64 H, .slice (some ⟨b, 0, none⟩) n n] 25)
  replace G0 := G0.alloc (.cells #[.int .i64 W, .int .i64 H, .slice (some ⟨b, 0, none⟩) n n] 25)
  clear cg g1
  go_wp2_with fail
  refine (cb1 _ _ C1.rowC).mono ?_
  rintro e v2 ⟨pm, pc, rfl, I2, hpm, hpc, g2⟩
  simp at hpm hpc
  replace M1 := M1.bl g2
  replace C1 := C1.bl g2
  replace E0 := E0.bl g2
  replace G0 := G0.trans g2
  have hw2 : w.heap.size ≤ pm ∧ w.heap.size ≤ pc := by omega
  clear g2 cb1
  obtain ⟨bM, hbM⟩ : ∃ bM, bM = v1.heap.size := ⟨_, rfl⟩
  rw [← hbM] at M1 ⊢
  clear hbM hpm hpc hCl hEw hb1
  have SK : ∀ V, Gr v2 V → (V.cell? ⟨bM, 0, none⟩ = some (.int .i64 W) ∧ V.cell? ⟨bM, 1, none⟩ = some (.int .i64 H) ∧ V.cell? ⟨bM, 2, none⟩ = some (.slice (some ⟨b, 0, none⟩) n n) ∧ V.cell? ⟨w.heap.size, 0, none⟩ = some (.int .i64 ra) ∧ V.cell? ⟨w.heap.size, 1, none⟩ = some (.int .i64 rb) ∧ V.cell? ⟨w.heap.size, 2, none⟩ = some (.int .i64 rc) ∧ V.cell? ⟨w.heap.size, 3, none⟩ = some (.int .i64 rd) ∧ Gr v2 V) := fun V g => by
    obtain ⟨m0, m1, m2⟩ := cells3 (M1.gr g)
    obtain ⟨e0, e1, e2, e3⟩ := cells4 (E0.gr g)
    exact ⟨m0, m1, m2, e0, e1, e2, e3, g⟩
  go_wp2
  rename_i K hK
  have rest : ∀ (V : World) (kg : Nat), At V kg #[.int .i64 x0, .int .i64 y0, .int .i64 x1, .int .i64 y1] 32 → Gr v2 V → K { tmps := #[Value.int IntKind.i64 x, Value.int IntKind.i64 y, Value.slice A la ca, Value.agg #[Value.int IntKind.i64 ra, Value.int IntKind.i64 rb, Value.int IntKind.i64 rc, Value.int IntKind.i64 rd], Value.int IntKind.i64 how, Value.slice Ab nb cb, undef, undef, undef, Value.pointer (some ⟨w.heap.size, 0, none⟩), undef, undef, Value.bool false, Value.pointer (some ⟨bM, 0, none⟩), Value.pointer (some ⟨pm, 0, none⟩), Value.pointer (some ⟨kg, 0, none⟩), undef, undef, undef, Value.int IntKind.i64 x, Value.int IntKind.i64 y, Value.slice A la ca, Value.agg #[Value.int IntKind.i64 (W : Nat), Value.int IntKind.i64 (H : Nat), Value.slice (some ⟨b, 0, none⟩) n n], Value.agg #[Value.int IntKind.i64 (W : Nat), Value.int IntKind.i64 (H : Nat), Value.slice (some ⟨b, 0, none⟩) n n], Value.pointer (some ⟨pm, 0, none⟩), Value.pointer (some ⟨pm, 0, none⟩), Value.bool false, Value.agg #[Value.int IntKind.i64 ra, Value.int IntKind.i64 rb, Value.int IntKind.i64 rc, Value.int IntKind.i64 rd], Value.agg #[Value.int IntKind.i64 sa, Value.int IntKind.i64 sb, Value.int IntKind.i64 sc, Value.int IntKind.i64 sd], Value.agg #[Value.int IntKind.i64 (W : Nat), Value.int IntKind.i64 (H : Nat), Value.slice (some ⟨b, 0, none⟩) n n], Value.agg #[Value.int IntKind.i64 0, Value.int IntKind.i64 0, Value.int IntKind.i64 (W : Nat), Value.int IntKind.i64 (H : Nat)], Value.agg #[Value.int IntKind.i64 (x0 : Nat), Value.int IntKind.i64 (y0 : Nat), Value.int IntKind.i64 (x1 : Nat), Value.int IntKind.i64 (y1 : Nat)], undef, undef, undef, undef, undef, undef, undef, undef, undef, undef, undef, undef, undef, undef, undef, undef, undef, undef, undef, undef, undef, undef, undef, undef, undef, undef, undef, undef, undef, undef, undef, undef, undef, undef, undef, undef, undef, undef, undef, undef, undef, undef, undef, undef, undef, undef, undef, undef, undef, undef, undef], defers := [] } V := by
    intro V kg Y8 B8
    refine hK _ _ ?_
    clear hK SK
    have M8 := M1.gr B8
    have I8 := I2.gr B8
    have C8 := C1.gr B8
    have G8 := G0.trans B8.bl
    clear M1 I2 C1 E0 G0 B8 cs cc
    obtain ⟨y0', y1', y2', y3'⟩ := cells4 Y8
    go_wp2_with fail
    refine (car _).mono ?_
    rintro e u1 ⟨rfl, g1⟩
    replace M8 := M8.gr g1
    replace I8 := I8.gr g1
    replace C8 := C8.gr g1
    replace G8 := G8.trans g1.bl
    replace Y8 := Y8.gr g1
    clear g1 y0' y1' y2' y3' car
    obtain ⟨y0', y1', y2', y3'⟩ := cells4 Y8
    by_cases hz : y0 < y1
    · have hN0 : 0 < N := by
        rcases Nat.eq_zero_or_pos N with h | h
        · exact absurd hz (hpos'.out.1 h)
        · exact h
      obtain ⟨n4, hn4'⟩ : ∃ n4, n4 = 4 * N := ⟨_, rfl⟩
      have hn4 : 4 * (N : Int) = (n4 : Int) := by omega
      have hb4 : n4 ≤ 1024 ∧ 4 ≤ n4 := by omega
      obtain ⟨hb41, hb42⟩ := hb4
      have mk := makeY n4 (by omega)
      have Zc := fun (V : World) => At.new V (cY (List.replicate n4 0)) 5
      generalize hZ : cY (List.replicate n4 0) = ZY at mk Zc
      have hZZ := Lib.hid hZ
      have hn44 := Lib.hid hn4'
      clear hZ hn4' cWR
      have ht : -2 ≤ how.tmod 3 ∧ how.tmod 3 ≤ 2 := by
        have := Int.tmod_lt_of_pos how (show (0 : Int) < 3 by omega)
        have := Int.lt_tmod_of_pos how (show (0 : Int) < 3 by omega)
        omega
      obtain ⟨ht1, ht2⟩ := ht
      have hcase : how.tmod 3 = 0 ∨ how.tmod 3 = 1 ∨ (¬ how.tmod 3 = 0 ∧ ¬ how.tmod 3 = 1) := by omega
      have hne : ((n4 : Int) == 0) = false := by simp; omega
      have Ya := Y8.alloc (.cells ZY 5)
      have Ma := M8.alloc (.cells ZY 5)
      have Ia := I8.gr ((Gr.refl u1).alloc (.cells ZY 5))
      have Ca := C8.alloc (.cells ZY 5)
      have Ga := G8.alloc (.cells ZY 5)
      have Za := Zc u1
      have hsz := Ma.lt
      have hYl := Y8.lt; have hMl := M8.lt; have hCl := C8.lt; have hpl := I8.hd.lt; have hql := I8.cs.lt
      have yo0 := fun o : Obj => (cells4 (Y8.alloc o)).1; have yo1 := fun o : Obj => (cells4 (Y8.alloc o)).2.1; have yo2 := fun o : Obj => (cells4 (Y8.alloc o)).2.2.1; have yo3 := fun o : Obj => (cells4 (Y8.alloc o)).2.2.2
      have hwu := G8.size
      have Mo := M8; have Io := I8; have Co := C8; have Go := G8
      clear Y8 M8 I8 C8 G8 y0' y1' y2' y3' Zc
      rcases hcase with hm | hm | ⟨hm, hm2⟩
      · clear ht1 ht2
        have M8 := Ma; have I8 := Ia; have C8 := Ca; have G8 := Ga
        clear Ma Ia Ca Ga
        go_wp2_with fail
        refine (cWL _ _ _ I8 hz (some ⟨u1.heap.size, 0, none⟩) (n4 - 1) n4 (by omega) 3 (.inl ⟨by omega, rfl⟩)).mono ?_
        rintro e u2 ⟨rfl, g2⟩
        replace M8 := M8.gr g2
        obtain ⟨z0, z1, z2⟩ := cells3 M8
        replace I8 := I8.gr g2
        replace C8 := C8.gr g2
        replace G8 := G8.trans g2.bl
        clear g2
        go_wp2_with fail
        refine (ck _ _ _ _ _ I8 C8.rowC).mono ?_
        rintro e u3 ⟨rfl, g3⟩
        replace G8 := G8.trans g3.bl
        go_wp2_with fail
        refine (lives1 _).mono ?_
        rintro e u4 ⟨rfl, g4⟩
        go_wp2
        go_ret
        exact ⟨rfl, G8.trans g4⟩
      · clear ht1 ht2
        have ow : OwN .u8 5 (u1.alloc (.cells ZY 5)) u1.heap.size (some ⟨u1.heap.size, 0, none⟩) n4 (List.replicate n4 0) := by
          refine ⟨by simp, .inr ⟨u1.heap.size, n4, ZY, by simp, Nat.le_refl _, Za, by simp, by unfold maxLen; omega, ?_, ?_⟩⟩
          · rw [← hZZ.out]; simp [cY]
          · rw [← hZZ.out]; simp [cY, List.take_of_length_le]
        have ow2 := ow.gr ((Gr.refl _).alloc (.cells #[.int .u8 0] 5))
        go_wp2_with (at_builtin; refine wp_app_n Try.underlying33 infoB rfl (by decide) rfl (.tmp 66) (.tmp 67) rfl (some ⟨u1.heap.size, 0, none⟩) n4 (List.replicate n4 0) (by rw [List.length_replicate]; rfl) u1.heap.size ow2 (u1.heap.size + 1) 0 [0] 1 rfl (row_one (At.newAt (by simp) #[.int .u8 0] 5)) (by simp) (by simp; omega) (by simp; omega) ?_; intro A' c2 w' ow3 ap3 ex3; rw [List.length_replicate]; have Yb := ap3.at ow2 (Ya.alloc (.cells #[.int .u8 0] 5)) hYl; obtain ⟨y0', y1', y2', y3'⟩ := cells4 Yb)
        have M8 := ap3.at ow2 (Ma.alloc (.cells #[.int .u8 0] 5)) hMl
        have C8 := ap3.at ow2 (Ca.alloc (.cells #[.int .u8 0] 5)) hCl
        have I8 := (Ia.gr ((Gr.refl _).alloc (.cells #[.int .u8 0] 5))).kept ap3 (by simp; omega) (by simp; omega)
        have G8 := ap3.bl (Ga.alloc (.cells #[.int .u8 0] 5)) ow2 hwu
        clear Ma Ia Ca Ga
        refine (cWL _ _ _ I8 hz A' (n4 + 1) c2 (by omega) 2 (.inr ⟨by omega, rfl⟩)).mono ?_
        rintro e u2 ⟨rfl, g2⟩
        replace M8 := M8.gr g2
        obtain ⟨z0, z1, z2⟩ := cells3 M8
        replace I8 := I8.gr g2
        replace C8 := C8.gr g2
        replace G8 := G8.trans g2.bl
        clear g2
        go_wp2_with fail
        refine (ck _ _ _ _ _ I8 C8.rowC).mono ?_
        rintro e u3 ⟨rfl, g3⟩
        replace G8 := G8.trans g3.bl
        go_wp2_with fail
        refine (lives1 _).mono ?_
        rintro e u4 ⟨rfl, g4⟩
        go_wp2
        go_ret
        exact ⟨rfl, G8.trans g4⟩
      · have c1 : (u1.alloc (.cells ZY 5)).cell? ⟨u1.heap.size, n4 - 1, none⟩ = some (.int .u8 0) := by
          rw [Za.cell, ← hZZ.out, cY_get, List.getElem?_replicate, if_pos (by omega)]; rfl
        have f1 := Za.free (n4 - 1)
        have hbs : ZY.setIfInBounds (n4 - 1) (.int .u8 1) = cY ((List.replicate n4 0).set (n4 - 1) 1) := by rw [← hZZ.out, cY_set]
        have Z3 := At.new u1 (ZY.setIfInBounds (n4 - 1) (.int .u8 1)) 5
        have M8 := Mo.alloc (.cells (ZY.setIfInBounds (n4 - 1) (.int .u8 1)) 5)
        have I8 := Io.gr ((Gr.refl u1).alloc (.cells (ZY.setIfInBounds (n4 - 1) (.int .u8 1)) 5))
        have C8 := Co.alloc (.cells (ZY.setIfInBounds (n4 - 1) (.int .u8 1)) 5)
        have G8 := Go.alloc (.cells (ZY.setIfInBounds (n4 - 1) (.int .u8 1)) 5)
        have R3 : RowN .u8 _ u1.heap.size 0 ((List.replicate n4 0).set (n4 - 1) 1) := At.rowY (by rw [← hbs]; exact Z3)
        have hgD : ∀ i, ((List.replicate n4 (0 : Int)).set (n4 - 1) 1).getD i 0 = if i = n4 - 1 ∧ i < n4 then 1 else 0 := by
          intro i
          rw [List.getD, List.getElem?_set]
          by_cases h : n4 - 1 = i
          · rw [if_pos h, if_pos (by rw [List.length_replicate]; omega), if_pos (by omega)]; rfl
          · rw [if_neg h, if_neg (by omega), List.getElem?_replicate]; split <;> rfl
        have hN4 := hn44.out
        have cW := cWA _ _ _ I8 hz (some ⟨u1.heap.size, 0, none⟩) ((List.replicate n4 0).set (n4 - 1) 1) n4 (.inr ⟨_, 0, rfl, R3⟩)
          (by intro v hv
              rcases List.mem_or_eq_of_mem_set hv with h | h
              · rw [List.eq_of_mem_replicate h]; unfold U8; omega
              · rw [h]; unfold U8; omega) (by simp) (by unfold maxLen; omega) (by simp; omega) (by simp; omega) (N - 1) (by simp; omega)
          (by unfold colAt; rw [hgD, hgD, hgD, hgD, if_neg (by omega), if_neg (by omega), if_neg (by omega), if_pos (by omega)]; decide)
          (by intro j hj; unfold colAt; rw [hgD, hgD, hgD, hgD, if_neg (by omega), if_neg (by omega), if_neg (by omega), if_neg (by omega)]; decide)
        rw [show ((List.replicate n4 (0 : Int)).set (n4 - 1) 1).length = n4 by simp] at cW
        clear R3 Z3 hN4 hgD hbs Ma Ia Ca Ga Mo Io Co Go Ya Za cWL cWA
        go_wp2_with fail
        refine cW.mono ?_
        rintro e u2 ⟨rfl, g2⟩
        replace M8 := M8.gr g2
        obtain ⟨z0, z1, z2⟩ := cells3 M8
        replace I8 := I8.gr g2
        replace C8 := C8.gr g2
        replace G8 := G8.trans g2.bl
        clear g2
        go_wp2_with fail
        refine (ck _ _ _ _ _ I8 C8.rowC).mono ?_
        rintro e u3 ⟨rfl, g3⟩
        replace G8 := G8.trans g3.bl
        go_wp2_with fail
        refine (lives1 _).mono ?_
        rintro e u4 ⟨rfl, g4⟩
        go_wp2
        go_ret
        exact ⟨rfl, G8.trans g4⟩
    · have hN0 : N = 0 := hpos'.out.2 hz
      subst hN0
      clear cWL cWA
      go_wp2_with fail
      refine (cWR _ _ _ I8 hz).mono ?_
      rintro e u2 ⟨rfl, g2⟩
      replace M8 := M8.gr g2
      obtain ⟨z0, z1, z2⟩ := cells3 M8
      replace I8 := I8.gr g2
      replace C8 := C8.gr g2
      replace G8 := G8.trans g2.bl
      clear g2 y0' y1' y2' y3'
      go_wp2_with fail
      refine (ck _ _ _ _ _ I8 C8.rowC).mono ?_
      rintro e u3 ⟨rfl, g3⟩
      replace G8 := G8.trans g3.bl
      go_wp2_with fail
      refine (lives1 _).mono ?_
      rintro e u4 ⟨rfl, g4⟩
      go_wp2
      go_ret
      exact ⟨rfl, G8.trans g4⟩
  go_region_held3 (fun V => V.cell? ⟨bM, 0, none⟩ = some (.int .i64 W) ∧ V.cell? ⟨bM, 1, none⟩ = some (.int .i64 H) ∧ V.cell? ⟨bM, 2, none⟩ = some (.slice (some ⟨b, 0, none⟩) n n) ∧ V.cell? ⟨w.heap.size, 0, none⟩ = some (.int .i64 ra) ∧ V.cell? ⟨w.heap.size, 1, none⟩ = some (.int .i64 rb) ∧ V.cell? ⟨w.heap.size, 2, none⟩ = some (.int .i64 rc) ∧ V.cell? ⟨w.heap.size, 3, none⟩ = some (.int .i64 rd) ∧ Gr v2 V) ((refine SK _ ?_; first | assumption | exact Gr.refl _ | exact (Gr.refl _).drew | exact (And.right (And.right (And.right (And.right (And.right (And.right (And.right (by assumption)))))))) | exact Gr.drew (And.right (And.right (And.right (And.right (And.right (And.right (And.right (by assumption)))))))) | exact Gr.alloc (And.right (And.right (And.right (And.right (And.right (And.right (And.right (by assumption)))))))) _ | exact Gr.alloc (by assumption) _ | exact Gr.put4 (by assumption) (Nat.le_refl _) _ _ _ _ | exact Gr.put4 (by assumption) (Gr.size (by assumption)) _ _ _ _ | exact Gr.trans (And.right (And.right (And.right (And.right (And.right (And.right (And.right (by assumption)))))))) (by assumption)))
    ((first
      | (go_at_call 25; (refine (cs _).mono ?_); rintro e a1 ⟨rfl, g1⟩; have B1 : Gr v2 a1 := Gr.trans (And.right (And.right (And.right (And.right (And.right (And.right (And.right (by assumption)))))))) g1; (try have X1 : At a1 v2.heap.size #[.int .i64 0, .int .i64 0, .int .i64 0, .int .i64 0] 32 := (At.new v2.drew #[.int .i64 0, .int .i64 0, .int .i64 0, .int .i64 0] 32).gr g1))
      | (go_at_call 26; (refine (refBox1 _).mono ?_); rintro e a2 ⟨rfl, g2⟩; have B2 : Gr v2 a2 := Gr.trans (And.right (And.right (And.right (And.right (And.right (And.right (And.right (by assumption)))))))) g2; (try have X2 : At a2 a1.heap.size #[.int .i64 0, .int .i64 0, .int .i64 0, .int .i64 0] 32 := (At.new a1 #[.int .i64 0, .int .i64 0, .int .i64 0, .int .i64 0] 32).gr g2); (try have X2 : At a2 v2.heap.size #[.int .i64 0, .int .i64 0, .int .i64 0, .int .i64 0] 32 := X1.gr g2))
      | (go_at_call 24; (refine (cc _).mono ?_); rintro e a3 ⟨rfl, g3⟩; have B3 : Gr v2 a3 := Gr.trans (And.right (And.right (And.right (And.right (And.right (And.right (And.right (by assumption)))))))) g3; (try have X3 : At a3 a2.heap.size #[.int .i64 0, .int .i64 0, .int .i64 0, .int .i64 0] 32 := (At.new a2 #[.int .i64 0, .int .i64 0, .int .i64 0, .int .i64 0] 32).gr g3); (try have X3 : At a3 a1.heap.size #[.int .i64 0, .int .i64 0, .int .i64 0, .int .i64 0] 32 := X2.gr g3); (try have X3 : At a3 v2.heap.size #[.int .i64 0, .int .i64 0, .int .i64 0, .int .i64 0] 32 := X2.gr g3); (try have i0 := (cells4 X3).1); (try have i1 := (cells4 X3).2.1); (try have i2 := (cells4 X3).2.2.1); (try have i3 := (cells4 X3).2.2.2); (try have i4 := (free4 X3).1); (try have i5 := (free4 X3).2.1); (try have i6 := (free4 X3).2.2.1); (try have i7 := (free4 X3).2.2.2))))
  all_goals first
    | (have X8 : At a3 a2.heap.size #[.int .i64 0, .int .i64 0, .int .i64 0, .int .i64 0] 32 := X3; exact rest _ _ (X8.put4 (.int .i64 x0) (.int .i64 y0) (.int .i64 x1) (.int .i64 y1)) (B3.put4 (k := a2.heap.size) (Gr.size B2) _ _ _ _))
    | (have X8 : At a3 a1.heap.size #[.int .i64 0, .int .i64 0, .int .i64 0, .int .i64 0] 32 := X3; exact rest _ _ (X8.put4 (.int .i64 x0) (.int .i64 y0) (.int .i64 x1) (.int .i64 y1)) (B3.put4 (k := a1.heap.size) (Gr.size B1) _ _ _ _))
    | (have X8 : At a3 v2.heap.size #[.int .i64 0, .int .i64 0, .int .i64 0, .int .i64 0] 32 := X3; exact rest _ _ (X8.put4 (.int .i64 x0) (.int .i64 y0) (.int .i64 x1) (.int .i64 y1)) (B3.put4 (k := v2.heap.size) (Nat.le_refl _) _ _ _ _))
    | exact rest _ _ (At.new a3 #[.int .i64 x0, .int .i64 y0, .int .i64 x1, .int .i64 y1] 32) (B3.alloc _)

set_option maxRecDepth 100000 in
theorem imageRefuses_lifted (os : Os) (started : os.Started) (H : Type) (enc : TypeId × Value → H) :
    ReturnsInHanded {} Try.checked os 10 .any (Rows.imageRefusesSpec.pre6 enc Try.prog Try.f10 Rows.imageRefusesRow.domain false) (Rows.imageRefusesSpec.post enc Try.prog Try.f10 false true false false) := by
  refine returnsInHanded_of_change (C := Try.checked) own started (by kernel_rfl) Try.func10
    (ChangeSpec.witness6 (enc := enc) (C := Try.checked) false ⟨#[], #[.int .i64 0, .int .i64 0, .slice none 0 0, .agg #[.int .i64 0, .int .i64 0, .int .i64 0, .int .i64 0], .int .i64 0, .slice none 0 0], []⟩ 8 (by kernel_rfl) (by kernel_rfl) (by kernel_rfl) (by kernel_rfl)) ?_
  intro W base args ds gs before hval0 hW hcnd _
  have hval : ∀ (j : Nat) t v, Try.f10.params[j]? = some t → args[j]? = some v → Value.okWide Try.prog W .any base t v := hval0
  have hW' := hW
  obtain ⟨p, q, hA0, hV, rfl, hfz, hnd⟩ := hW
  have hA : DataW.TrodAll enc Try.prog W 0 (fun _ => true) true Try.f10.params.toList args.toList ds p := hA0
  rw [Try.params10] at hA hval
  obtain ⟨v0, vs0, d0, ds0, p0, q0, hargs, rfl, rfl, h0, r0⟩ := trodAll_cons hA
  obtain ⟨v1, vs1, d1, ds1, p1, q1, rfl, rfl, rfl, h1, r1⟩ := trodAll_cons r0
  obtain ⟨v2, vs2, d2, ds2, p2, q2, rfl, rfl, rfl, h2, r2⟩ := trodAll_cons r1
  obtain ⟨v3, vs3, d3, ds3, p3, q3, rfl, rfl, rfl, h3, r3⟩ := trodAll_cons r2
  obtain ⟨v4, vs4, d4, ds4, p4, q4, rfl, rfl, rfl, h4, r4⟩ := trodAll_cons r3
  obtain ⟨v5, vs5, d5, ds5, p5, q5, rfl, rfl, rfl, h5, r5⟩ := trodAll_cons r4
  obtain ⟨rfl, rfl, rfl⟩ := trodAll_nil r5
  obtain rfl : args = #[v0, v1, v2, v3, v4, v5] := by cases args; simp_all
  obtain ⟨rfl, rfl⟩ := trodVars_none hV
  obtain ⟨n0, rfl, rfl, rfl, un0⟩ := open_int Try.underlying3 (hval 0 3 v0 rfl rfl) h0
  have wn0 := I64.of_wf un0
  obtain ⟨n1, rfl, rfl, rfl, un1⟩ := open_int Try.underlying3 (hval 1 3 v1 rfl rfl) h1
  have wn1 := I64.of_wf un1
  obtain ⟨A2, c2, L2, rfl, hc2, hm2, hr2, hI2⟩ := open_colors (hval 2 22 v2 rfl rfl) h2
  unfold maxLen at hm2
  obtain ⟨a3, b3, c3, d3, rfl, rfl, rfl, ua3, ub3, uc3, ud3⟩ := open_rect (hval 3 32 v3 rfl rfl) h3
  have wa3 := I64.of_wf ua3
  have wb3 := I64.of_wf ub3
  have wc3 := I64.of_wf uc3
  have wd3 := I64.of_wf ud3
  obtain ⟨n4, rfl, rfl, rfl, un4⟩ := open_int Try.underlying3 (hval 4 3 v4 rfl rfl) h4
  have wn4 := I64.of_wf un4
  obtain ⟨A5, c5, L5, rfl, hc5, hm5, hr5, hI5⟩ := open_bytes (hval 5 33 v5 rfl rfl) h5
  unfold maxLen at hm5
  clear hA0 hval0
  simp only [List.append_nil, List.nil_append] at hW'
  have hlt := hW'.lt
  refine (irefuses_walk n0 n1 A2 c2 L2 a3 b3 c3 d3 n4 A5 c5 L5.length W wn0 wn1 hr2 hI2 hc2 (by unfold maxLen; omega) wa3 wb3 wc3 wd3 wn4).mono fun e W' ⟨he, hb⟩ => ?_
  subst he
  exact ⟨_, rfl, close_below (pa := p2 ++ p5) (pv := []) hW' (fun _ _ _ => (trodAll_cons_mk (shut_bool Try.underlying4 _) trodAll_mk0)) (fun sp hsp => by
      have := (trodAll_cons_mk (shut_int Try.underlying3 un0) (trodAll_cons_mk (shut_int Try.underlying3 un1) (trodAll_cons_mk (WideElems.Trod_stays laidOut (by kernel_rfl) (of_decide_eq_true (by kernel_rfl)) h2 (fun x hx => Below.same hb (hlt x (by simp [hx]))) (sp' := sp) (fun x hx => hsp x (by simp [hx]))) (trodAll_cons_mk (shut_rect ua3 ub3 uc3 ud3) (trodAll_cons_mk (shut_int Try.underlying3 un4) (trodAll_cons_mk (WideElems.Trod_stays laidOut (by kernel_rfl) (of_decide_eq_true (by kernel_rfl)) h5 (fun x hx => Below.same hb (hlt x (by simp [hx]))) (sp' := sp) (fun x hx => hsp x (by simp [hx]))) trodAll_mk0))))))
      simp only [List.append_nil, List.nil_append] at this
      exact this)
    (fun _ _ => rfl) (by simp) hb (ok_one (by kernel_rfl) rfl (okWide_bool_mk Try.underlying4 _))⟩

theorem imageRefuses_holds : Rows.ImageRefusesSaid :=
  OpenClaim.holds_of_wide 10 Try.f10 rfl rfl rfl rfl rfl rfl rfl ⟨rfl, rfl, rfl, rfl, rfl⟩ rfl rfl rfl rfl rfl (by kernel_rfl) Try.func10 (by kernel_rfl)
    (of_decide_eq_true (by kernel_rfl)) (by unfold Func.isWrapper; first | (rw [if_pos (by decide +kernel)]; kernel_rfl) | (rw [if_neg (by decide +kernel)]; exact ⟨rfl, rfl⟩))
    (fun os started H enc _ => imageRefuses_lifted os started H enc)

#print axioms imageRefuses_holds

end Go.Proofs.Ytlbpeogjedjpnaa
