/-
  What is proved: what decode of package event hands back of any message that bytes may hold. One condition: the table of shapes reads as its initialiser lays it.
-/
import Derived.Test.YthkbenhlhldglaaDoorDe
import Derived.Test.YthkbenhlhldglaaDoorUd
namespace Go.Proofs.YthkbenhlhldglaaDoor
open Go.RowKit Go.Sort

/-- A message that bytes hold. -/
structure InM (m : Ms) : Prop where
  op : 0 ≤ m.op ∧ m.op ≤ 255
  by8 : ByL m.body
  len : m.body.length ≤ 4096
theorem rdM_in {b : List Int} (h : ByL b) : InM (rdM b) := by
  unfold rdM
  split
  · rename_i h0
    have h1 := rd_ok.1 h0
    refine ⟨h.at 2, (h.take _).drop 7, ?_⟩
    show ((b.take (hdN b).toNat).drop 7).length ≤ 4096
    rw [List.length_drop, List.length_take]
    omega
  · exact ⟨by show (0 : Int) ≤ 0 ∧ (0 : Int) ≤ 255; omega, ByL.nil, by simp⟩
theorem spl_in : ∀ (k : Nat) (b : List Int), b.length ≤ k → ByL b → ∀ m ∈ (spl b).1, InM m
  | k, b, hk, hb, m, hm => by
    by_cases h0 : b = []
    · subst h0; rw [spl_nil] at hm; simp at hm
    · by_cases h : rdE b = 0
      · have h1 := rdN_ok h
        obtain ⟨k', rfl⟩ : ∃ k', k = k' + 1 := ⟨k - 1, by omega⟩
        rw [spl_ok h] at hm
        rcases List.mem_cons.1 (show m ∈ rdM b :: (spl (b.drop (rdN b))).1 from hm) with rfl | hm
        · exact rdM_in hb
        · exact spl_in k' (b.drop (rdN b)) (by rw [List.length_drop]; omega) (hb.drop _) m hm
      · rw [spl_bad h0 h] at hm; simp at hm
theorem unA_ints : ∀ (f : List UInt8) (l0 : List Int) (b : List Int), (∀ c ∈ f, c = 117 ∨ c = 105) → l0.length + f.length ≤ 2 → ∃ l : List Int, (unA (l0.map vI) f b).1 = l.map vI ∧ l.length ≤ 2
  | [], l0, b, _, hl => by
    unfold unA
    split
    · exact ⟨l0, rfl, by simpa using hl⟩
    · exact ⟨[], rfl, by simp⟩
  | c :: f, l0, b, hf, hl => by
    unfold unA
    split
    · exact ⟨[], rfl, by simp⟩
    · have hv : ∃ n, gv c b = vI n := by
        rcases hf c (by simp) with rfl | rfl
        · exact ⟨n4 b, by unfold gv; rw [if_neg (by decide), if_pos rfl]⟩
        · exact ⟨sg (n4 b), by unfold gv; rw [if_pos rfl]⟩
      obtain ⟨n, hv⟩ := hv
      rw [hv, show l0.map vI ++ [vI n] = (l0 ++ [n]).map vI by simp]
      exact unA_ints f (l0 ++ [n]) _ (fun c' hc => hf c' (by simp [hc])) (by simp at hl ⊢; omega)
theorem unR_ints {n : Nat} (h : n < 6) (b : List Int) : ∃ l : List Int, (unR (efL n) b).1 = l.map vI ∧ l.length ≤ 2 := by
  have hm : ∀ m : Fin 6, ∀ c ∈ efL m.1, c = 117 ∨ c = 105 := by decide
  unfold unR
  split
  · exact unA_ints (efL n) [] b (hm ⟨n, h⟩) (by have := (efL_ok h).2.2; simpa using this)
  · exact ⟨[], rfl, by simp⟩
/-- The first numbers, and zeros. -/
def nu (l : List Int) (i j : Nat) : Int := if i < j then l.getD i 0 else 0
def DecEQ (w : World) (p : Ev × Int) (x : Ending) (w' : World) : Prop := x = .returned (.tuple #[vE p.1, .int .i64 p.2]) ∧ Bl w w'
theorem put4_at {w : World} {b : Nat} {z0 z1 z2 z3 : Value} {t : TypeId} (h : At w b #[z0, z1, z2, z3] t) (u0 u1 u2 u3 : Value) : At ((((w.setCell ⟨b, 0, none⟩ u0).setCell ⟨b, 1, none⟩ u1).setCell ⟨b, 2, none⟩ u2).setCell ⟨b, 3, none⟩ u3) b #[u0, u1, u2, u3] t := by
  have := (((h.put 0 u0).put 1 u1).put 2 u2).put 3 u3
  unfold At at *
  simpa using this
theorem put4_bl {a w : World} {b : Nat} (h : Bl a w) (hb : a.heap.size ≤ b) (u0 u1 u2 u3 : Value) : Bl a ((((w.setCell ⟨b, 0, none⟩ u0).setCell ⟨b, 1, none⟩ u1).setCell ⟨b, 2, none⟩ u2).setCell ⟨b, 3, none⟩ u3) :=
  (((h.setCell (p := ⟨b, 0, none⟩) hb u0).setCell (p := ⟨b, 1, none⟩) hb u1).setCell (p := ⟨b, 2, none⟩) hb u2).setCell (p := ⟨b, 3, none⟩) hb u3
set_option maxRecDepth 100000 in
set_option maxHeartbeats 2000000 in
theorem decE_no (m : Ms) (A : Option Addr) (c : Nat) (w : World) (hin : InM m) (h : ¬ (0 ≤ m.op - 128 ∧ m.op - 128 ≤ 5)) : Calls Tryd.prog 61 #[.agg #[.int .i64 m.op, .int .i64 m.id, .slice A m.body.length c]] w (DecEQ w (decE m)) := by
  have hd : decE m = (zE, 12) := by unfold decE; rw [if_neg h]
  rw [hd]
  have hop := hin.op
  obtain ⟨op, id, L⟩ := m
  dsimp only at *
  have c1 := fun V => findE0 (op - 128) h V
  generalize L.length = n at *
  obtain ⟨o1, o2⟩ := hop
  have X := At.newAt (w := w.alloc (.cells #[.int .i64 op, .int .i64 id, .slice A n c] 24)) (n := w.heap.size + 1) (by simp) #[.int .i64 0, .int .i64 0, .int .i64 0, .int .i64 0] 65
  have G : Bl w ((w.alloc (.cells #[.int .i64 op, .int .i64 id, .slice A n c] 24)).alloc (.cells #[.int .i64 0, .int .i64 0, .int .i64 0, .int .i64 0] 65)) := ((Bl.refl w).alloc _).alloc _
  clear hd hin h
  go_enter Tryd.func61, Tryd.ntmps61
  go_wp2_with fail
  refine (c1 _).mono ?_
  rintro e w1 ⟨rfl, g1⟩
  have X2 := (X.gr g1).alloc (.cells #[.string ⟨#[]⟩, .string ⟨#[]⟩] 119)
  have G2 := (G.gr g1).alloc (.cells #[.string ⟨#[]⟩, .string ⟨#[]⟩] 119)
  obtain ⟨k0, k1, k2, k3⟩ := cells4E X2
  have f0 := X2.free 0
  have f1 := X2.free 1
  have f2 := X2.free 2
  have f3 := X2.free 3
  go_wp2
  clear k0 k1 k2 k3 f0 f1 f2 f3
  have Y := put4_at X2 (.int .i64 0) (.int .i64 0) (.int .i64 0) (.int .i64 0)
  have GY := put4_bl (b := w.heap.size + 1) G2 (by omega) (.int .i64 0) (.int .i64 0) (.int .i64 0) (.int .i64 0)
  generalize ((((w1.alloc (.cells #[.string ⟨#[]⟩, .string ⟨#[]⟩] 119)).setCell ⟨w.heap.size + 1, 0, none⟩ (.int .i64 0)).setCell ⟨w.heap.size + 1, 1, none⟩ (.int .i64 0)).setCell ⟨w.heap.size + 1, 2, none⟩ (.int .i64 0)).setCell ⟨w.heap.size + 1, 3, none⟩ (.int .i64 0) = VV at *
  have d0 : VV.cell? ⟨w.heap.size + 1, 0, none⟩ = some (.int .i64 0) := (Y.cell 0).trans rfl
  have d1 : VV.cell? ⟨w.heap.size + 1, 1, none⟩ = some (.int .i64 0) := (Y.cell 1).trans rfl
  have d2 : VV.cell? ⟨w.heap.size + 1, 2, none⟩ = some (.int .i64 0) := (Y.cell 2).trans rfl
  have d3 : VV.cell? ⟨w.heap.size + 1, 3, none⟩ = some (.int .i64 0) := (Y.cell 3).trans rfl
  exact bodyPost_ret (v := .tuple #[.agg #[.int .i64 0, .int .i64 0, .int .i64 0, .int .i64 0], .int .i64 12]) (by simp [results, Tryd.results61, go_sem, d0, d1, d2, d3]) rfl ⟨rfl, GY⟩
set_option maxRecDepth 100000 in
set_option maxHeartbeats 2000000 in
theorem decE_main (op id : Int) (A : Option Addr) (c n : Nat) (N F : ByteArray) (w : World) (l : List Int) (E : Int) (B : Bool) (Z : Ending → World → Prop)
    (hop : 0 ≤ op ∧ op ≤ 255) (hl : l.length ≤ 2)
    (c1 : ∀ V, Bl w V → Calls Tryd.prog 62 #[.int .i64 (op - 128)] V (Rt V (.tuple #[.agg #[.string N, .string F], .bool true])))
    (cu : ∀ V, Bl w V → Calls Tryd.prog 49 #[.string F, .slice A n c] V (UnQ V (l.map vI, E)))
    (cm : ∀ V, Bl w V → Calls Tryd.prog 28 #[.agg #[.int .i64 (op - 128), .int .i64 id, .int .i64 (l.getD 0 0), .int .i64 (l.getD 1 0)]] V (fun x w' => x = .returned (.bool B) ∧ Bl V w'))
    (z0 : ∀ V, Bl w V → E ≠ 0 → Z (.returned (.tuple #[.agg #[.int .i64 0, .int .i64 0, .int .i64 0, .int .i64 0], .int .i64 E])) V)
    (z1 : ∀ V, Bl w V → E = 0 → B = false → Z (.returned (.tuple #[.agg #[.int .i64 0, .int .i64 0, .int .i64 0, .int .i64 0], .int .i64 4])) V)
    (z2 : ∀ V, Bl w V → E = 0 → B = true → Z (.returned (.tuple #[.agg #[.int .i64 (op - 128), .int .i64 id, .int .i64 (l.getD 0 0), .int .i64 (l.getD 1 0)], .int .i64 0])) V) :
    Calls Tryd.prog 61 #[.agg #[.int .i64 op, .int .i64 id, .slice A n c]] w Z := by
  obtain ⟨o1, o2⟩ := hop
  have X := At.newAt (w := w.alloc (.cells #[.int .i64 op, .int .i64 id, .slice A n c] 24)) (n := w.heap.size + 1) (by simp) #[.int .i64 0, .int .i64 0, .int .i64 0, .int .i64 0] 65
  have M := (At.new w #[.int .i64 op, .int .i64 id, .slice A n c] 24).alloc (.cells #[.int .i64 0, .int .i64 0, .int .i64 0, .int .i64 0] 65)
  have G : Bl w ((w.alloc (.cells #[.int .i64 op, .int .i64 id, .slice A n c] 24)).alloc (.cells #[.int .i64 0, .int .i64 0, .int .i64 0, .int .i64 0] 65)) := ((Bl.refl w).alloc _).alloc _
  go_enter Tryd.func61, Tryd.ntmps61
  go_wp2_with fail
  refine (c1 _ G).mono ?_
  rintro e w1 ⟨rfl, g1⟩
  have X2 := (X.gr g1).alloc (.cells #[.string N, .string F] 119)
  have M2 := (M.gr g1).alloc (.cells #[.string N, .string F] 119)
  have G2 := (G.gr g1).alloc (.cells #[.string N, .string F] 119)
  have m2 : (w1.alloc (.cells #[.string N, .string F] 119)).cell? ⟨w.heap.size, 2, none⟩ = some (.slice A n c) := M2.cell 2
  clear c1 X M G g1
  go_wp2_with fail
  refine (cu _ G2).mono ?_
  rintro e w3 ⟨A3, c3, xs, rfl, hY, hA, g3⟩
  have X3 := X2.bl g3
  have M3 := M2.bl g3
  have G3 := G2.trans g3
  have hxl := hA.len
  rw [List.length_map] at hxl
  clear cu X2 M2 G2 g3 m2
  by_cases hE : E = 0
  case neg =>
    have ex := Lib.hid fun V (g : Bl w V) => z0 V g hE
    have hne : (E == 0) = false := by simpa using hE
    obtain ⟨k0, k1, k2, k3⟩ := cells4E X3
    have f0 := X3.free 0
    have f1 := X3.free 1
    have f2 := X3.free 2
    have f3 := X3.free 3
    clear z0 z1 z2 cm hY hA hxl
    go_wp2
    clear k0 k1 k2 k3 f0 f1 f2 f3
    have Y := put4_at X3 (.int .i64 0) (.int .i64 0) (.int .i64 0) (.int .i64 0)
    have GY := put4_bl (b := w.heap.size + 1) G3 (by omega) (.int .i64 0) (.int .i64 0) (.int .i64 0) (.int .i64 0)
    generalize (((w3.setCell ⟨w.heap.size + 1, 0, none⟩ (.int .i64 0)).setCell ⟨w.heap.size + 1, 1, none⟩ (.int .i64 0)).setCell ⟨w.heap.size + 1, 2, none⟩ (.int .i64 0)).setCell ⟨w.heap.size + 1, 3, none⟩ (.int .i64 0) = VV at *
    have d0 : VV.cell? ⟨w.heap.size + 1, 0, none⟩ = some (.int .i64 0) := (Y.cell 0).trans rfl
    have d1 : VV.cell? ⟨w.heap.size + 1, 1, none⟩ = some (.int .i64 0) := (Y.cell 1).trans rfl
    have d2 : VV.cell? ⟨w.heap.size + 1, 2, none⟩ = some (.int .i64 0) := (Y.cell 2).trans rfl
    have d3 : VV.cell? ⟨w.heap.size + 1, 3, none⟩ = some (.int .i64 0) := (Y.cell 3).trans rfl
    exact bodyPost_ret (v := .tuple #[.agg #[.int .i64 0, .int .i64 0, .int .i64 0, .int .i64 0], .int .i64 E]) (by simp [results, Tryd.results61, go_sem, d0, d1, d2, d3]) rfl (ex.out _ GY)
  case pos =>
    subst hE
    have g4 : Bl w3 (w3.alloc (.cells #[.int .i64 0, .int .i64 0] 139)) := (Bl.refl w3).alloc _
    have A4 := At.new w3 #[.int .i64 0, .int .i64 0] 139
    obtain ⟨m, hm⟩ : ∃ m, m = xs.length := ⟨_, rfl⟩
    rw [← hm] at hxl ⊢
    have hm2 : m ≤ 2 := by omega
    replace hm := Lib.hid hm
    replace hxl := Lib.hid hxl
    replace hA := Lib.hid hA
    go_wp2
    generalize w3.alloc (.cells #[.int .i64 0, .int .i64 0] 139) = w4 at *
    go_loopw [38] (fun i wr => ∃ j : Nat, j ≤ m ∧ i = .int .i64 ((j : Nat) : Int) ∧ At wr w3.heap.size #[.int .i64 (nu l 0 j), .int .i64 (nu l 1 j)] 139 ∧ Bl w3 wr) (fun i _ => m - (intOf i).toNat)
    case atStart => exact ⟨0, Nat.zero_le _, rfl, A4, g4⟩
    case round =>
      obtain ⟨j, hj, rfl, B, H⟩ := hrel
      by_cases hlt : j < m
      · have q1 : (j : Int) < m := by omega
        have q3 : j < 2 := by omega
        have q2 : (j : Int) < 2 := by omega
        obtain ⟨b, off, u, rfl, hu, hc⟩ := (hY.bl H).at (k := j) (by rw [← hm.out]; exact hlt)
        obtain ⟨x, hx⟩ := list_at (l := l) (k := j) (by rw [← hxl.out]; exact hlt)
        have hua : IsA w3 u (vI x) := hA.out.at hu (by rw [List.getElem?_map, hx]; rfl)
        have ci := fun V (g : Bl w3 V) => int1 (vI x) u V (hua.bl g)
        rw [rI_yes rfl] at ci
        replace ci := Lib.hid ci
        obtain ⟨T, xx, rfl⟩ := hua.isIface
        have b0 := B.cell 0
        have b1 := B.cell 1
        have f0 := B.free 0
        have f1 := B.free 1
        have fj : wr.frozen? ⟨w3.heap.size, j, none⟩ = false := B.free j
        have bj : ∃ y, wr.cell? ⟨w3.heap.size, j, none⟩ = some (.int .i64 y) := by
          have h2 : j = 0 ∨ j = 1 := by omega
          rcases h2 with rfl | rfl
          · exact ⟨_, b0⟩
          · exact ⟨_, b1⟩
        obtain ⟨y, bj⟩ := bj
        have hnext : ∀ V, At V w3.heap.size #[.int .i64 (nu l 0 j), .int .i64 (nu l 1 j)] 139 → At (V.setCell ⟨w3.heap.size, j, none⟩ (.int .i64 x)) w3.heap.size #[.int .i64 (nu l 0 (j + 1)), .int .i64 (nu l 1 (j + 1))] 139 := fun V B => by
          have hP := B.put j (.int .i64 x)
          have h2 : j = 0 ∨ j = 1 := by omega
          rcases h2 with rfl | rfl
          · have e0 : nu l 0 1 = x := by unfold nu; rw [if_pos (by omega), List.getD_eq_getElem?_getD, hx]; rfl
            have e1 : nu l 1 1 = nu l 1 0 := by unfold nu; rw [if_neg (by omega), if_neg (by omega)]
            rw [e0, e1]; simpa [At] using hP
          · have e0 : nu l 0 2 = nu l 0 1 := by unfold nu; rw [if_pos (by omega), if_pos (by omega)]
            have e1 : nu l 1 2 = x := by unfold nu; rw [if_pos (by omega), List.getD_eq_getElem?_getD, hx]; rfl
            rw [e0, e1]; simpa [At] using hP
        replace hnext := Lib.hid hnext
        replace hx := Lib.hid hx
        clear hu b0 b1 f0 f1 fj
        go_wp2_with fail
        refine (ci.out _ H).mono ?_
        rintro e w5 ⟨rfl, g5⟩
        have B5 := B.gr g5
        have H5 := H.gr g5
        have fj : w5.frozen? ⟨w3.heap.size, j, none⟩ = false := B5.free j
        have bj5 : w5.cell? ⟨w3.heap.size, j, none⟩ = some (.int .i64 y) := g5.bl.keep bj
        have N5 := Lib.hid (hnext.out w5 B5)
        have S5 := H5.setCell (p := ⟨w3.heap.size, j, none⟩) (Nat.le_refl _) (.int .i64 x)
        clear hnext B B5 hc bj
        go_wp2
        go_roundw
        case rel => exact ⟨j + 1, by omega, by go_num, N5.out, S5⟩
        case measure => simp [intOf]; omega
      · obtain rfl : j = m := by omega
        have q1 : ¬ (j : Int) < j := by omega
        have e0 : nu l 0 j = l.getD 0 0 := by
          unfold nu
          split
          · rfl
          · rw [List.getD_eq_getElem?_getD, List.getElem?_eq_none (by have := hxl.out; omega)]; rfl
        have e1 : nu l 1 j = l.getD 1 0 := by
          unfold nu
          split
          · rfl
          · rw [List.getD_eq_getElem?_getD, List.getElem?_eq_none (by have := hxl.out; omega)]; rfl
        rw [e0, e1] at B
        have M5 := M3.bl H
        have X5 := X3.bl H
        have G5 := G3.trans H
        generalize l.getD 0 0 = n0 at *
        generalize l.getD 1 0 = n1 at *
        have b0 : wr.cell? ⟨w3.heap.size, 0, none⟩ = some (.int .i64 n0) := B.cell 0
        have b1 : wr.cell? ⟨w3.heap.size, 1, none⟩ = some (.int .i64 n1) := B.cell 1
        have m1 : wr.cell? ⟨w.heap.size, 1, none⟩ = some (.int .i64 id) := M5.cell 1
        have X6 := X5.alloc (.cells #[.int .i64 (op - 128), .int .i64 id, .int .i64 n0, .int .i64 n1] 65)
        have E6 := At.new wr #[.int .i64 (op - 128), .int .i64 id, .int .i64 n0, .int .i64 n1] 65
        have G6 := G5.alloc (.cells #[.int .i64 (op - 128), .int .i64 id, .int .i64 n0, .int .i64 n1] 65)
        clear hY hA hxl hm e0 e1 X3 X5 M3 M5 B A4 g4
        go_wp2_with fail
        refine (cm _ G6).mono ?_
        rintro e w7 ⟨rfl, g7⟩
        have X7 := X6.bl g7
        have E7 := E6.bl g7
        have G7 := G6.trans g7
        clear X6 E6 G6 b0 b1 m1 cm
        obtain ⟨k0, k1, k2, k3⟩ := cells4E X7
        obtain ⟨j0, j1, j2, j3⟩ := cells4E E7
        have f0 := X7.free 0
        have f1 := X7.free 1
        have f2 := X7.free 2
        have f3 := X7.free 3
        cases B with
        | false =>
          have ex := Lib.hid fun V (g : Bl w V) => z1 V g trivial rfl
          clear z0 z1 z2
          go_wp2
          clear k0 k1 k2 k3 f0 f1 f2 f3 j0 j1 j2 j3
          have Y := put4_at X7 (.int .i64 0) (.int .i64 0) (.int .i64 0) (.int .i64 0)
          have GY := put4_bl (b := w.heap.size + 1) G7 (by omega) (.int .i64 0) (.int .i64 0) (.int .i64 0) (.int .i64 0)
          generalize (((w7.setCell ⟨w.heap.size + 1, 0, none⟩ (.int .i64 0)).setCell ⟨w.heap.size + 1, 1, none⟩ (.int .i64 0)).setCell ⟨w.heap.size + 1, 2, none⟩ (.int .i64 0)).setCell ⟨w.heap.size + 1, 3, none⟩ (.int .i64 0) = VV at *
          have d0 : VV.cell? ⟨w.heap.size + 1, 0, none⟩ = some (.int .i64 0) := (Y.cell 0).trans rfl
          have d1 : VV.cell? ⟨w.heap.size + 1, 1, none⟩ = some (.int .i64 0) := (Y.cell 1).trans rfl
          have d2 : VV.cell? ⟨w.heap.size + 1, 2, none⟩ = some (.int .i64 0) := (Y.cell 2).trans rfl
          have d3 : VV.cell? ⟨w.heap.size + 1, 3, none⟩ = some (.int .i64 0) := (Y.cell 3).trans rfl
          exact bodyPost_ret (v := .tuple #[.agg #[.int .i64 0, .int .i64 0, .int .i64 0, .int .i64 0], .int .i64 4]) (by simp [results, Tryd.results61, go_sem, d0, d1, d2, d3]) rfl (ex.out _ GY)
        | true =>
          have ex := Lib.hid fun V (g : Bl w V) => z2 V g trivial rfl
          clear z0 z1 z2
          go_wp2
          clear k0 k1 k2 k3 f0 f1 f2 f3 j0 j1 j2 j3
          have Y := put4_at X7 (.int .i64 (op - 128)) (.int .i64 id) (.int .i64 n0) (.int .i64 n1)
          have GY := put4_bl (b := w.heap.size + 1) G7 (by omega) (.int .i64 (op - 128)) (.int .i64 id) (.int .i64 n0) (.int .i64 n1)
          generalize (((w7.setCell ⟨w.heap.size + 1, 0, none⟩ (.int .i64 (op - 128))).setCell ⟨w.heap.size + 1, 1, none⟩ (.int .i64 id)).setCell ⟨w.heap.size + 1, 2, none⟩ (.int .i64 n0)).setCell ⟨w.heap.size + 1, 3, none⟩ (.int .i64 n1) = VV at *
          have d0 : VV.cell? ⟨w.heap.size + 1, 0, none⟩ = some (.int .i64 (op - 128)) := (Y.cell 0).trans rfl
          have d1 : VV.cell? ⟨w.heap.size + 1, 1, none⟩ = some (.int .i64 id) := (Y.cell 1).trans rfl
          have d2 : VV.cell? ⟨w.heap.size + 1, 2, none⟩ = some (.int .i64 n0) := (Y.cell 2).trans rfl
          have d3 : VV.cell? ⟨w.heap.size + 1, 3, none⟩ = some (.int .i64 n1) := (Y.cell 3).trans rfl
          exact bodyPost_ret (v := .tuple #[.agg #[.int .i64 (op - 128), .int .i64 id, .int .i64 n0, .int .i64 n1], .int .i64 0]) (by simp [results, Tryd.results61, go_sem, d0, d1, d2, d3]) rfl (ex.out _ GY)
theorem decE1 (m : Ms) (A : Option Addr) (c : Nat) (w : World) (hS : Sh w) (hin : InM m) (hs : Sv w (.slice A m.body.length c) m.body) : Calls Tryd.prog 61 #[.agg #[.int .i64 m.op, .int .i64 m.id, .slice A m.body.length c]] w (DecEQ w (decE m)) := by
  by_cases h : 0 ≤ m.op - 128 ∧ m.op - 128 ≤ 5
  case neg => exact decE_no m A c w hin h
  obtain ⟨n, hn⟩ : ∃ n : Nat, m.op - 128 = n := ⟨(m.op - 128).toNat, by omega⟩
  have h6 : n < 6 := by omega
  have hkn : (m.op - 128).toNat = n := by omega
  obtain ⟨l, hl, hl2⟩ := unR_ints h6 m.body
  have hset : setE (m.op - 128) m.id (l.map vI) = ⟨m.op - 128, m.id, l.getD 0 0, l.getD 1 0⟩ := by
    unfold setE
    rw [List.map_map, show ((fun v : Av => v.n) ∘ vI) = id from rfl, List.map_id]
  have hd : decE m = decUE (m.op - 128) m.id (unR (efL n) m.body) := by unfold decE; rw [if_pos h, hkn]
  obtain ⟨A', c', h0, h1, h2, h3, h4⟩ := hs
  injection h0 with i1 i2 i3
  subst i1 i3
  have hlen := hin.len
  have hu : unR (efL n) m.body = (l.map vI, (unR (efL n) m.body).2) := Prod.ext hl rfl
  refine decE_main m.op m.id A c m.body.length (enS n) (efS n) w l (unR (efL n) m.body).2 (mayE ⟨m.op - 128, m.id, l.getD 0 0, l.getD 1 0⟩) _ hin.op hl2
    (fun V g => by rw [hn]; exact findE1 n h6 V (hS.bl g))
    (fun V g => by
      have := aunpack1 (efS n) A c m.body V (by have := (efL_ok h6).2.2; show (efL n).length ≤ 1000; omega) (h4.bl g) hin.by8 (by omega) h1 h2 h3
      rw [efS_list, hu] at this
      exact this)
    (fun V g => evMay1 ⟨m.op - 128, m.id, l.getD 0 0, l.getD 1 0⟩ V (hS.bl g)) (fun V g hE => ?_) (fun V g hE hB => ?_) (fun V g hE hB => ?_)
  · refine ⟨?_, g⟩
    rw [hd]
    unfold decUE
    rw [if_neg hE]; rfl
  · refine ⟨?_, g⟩
    rw [hd]
    unfold decUE
    rw [if_pos hE, hl, hset, hB, if_neg (by simp)]; rfl
  · refine ⟨?_, g⟩
    rw [hd]
    unfold decUE
    rw [if_pos hE, hl, hset, hB, if_pos rfl]; rfl

end Go.Proofs.YthkbenhlhldglaaDoor
