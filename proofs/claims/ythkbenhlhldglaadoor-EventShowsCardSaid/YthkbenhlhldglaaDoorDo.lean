/-
  What is proved: what Show of package event hands back of any event whose numbers are ints. Conditions: the table of shapes, and the library's table of powers of ten, read as their initialisers lay them.
-/
import Derived.Test.YthkbenhlhldglaaDoorDn
import Derived.Test.YthkbenhlhldglaaDoorDe
import Derived.Test.YthkbenhlhldglaaDoorShc
import Derived.Lib.AppendIntMem
namespace Go.Proofs.YthkbenhlhldglaaDoor
open Go.RowKit Go.Sort

/-- The table of powers of ten. -/
def Tb (w : World) : Prop := Lib.TabIs Tryd.prog w "internal/strconv.uint64pow10" .u64 Lib.pow10Tab
theorem Tb.bl {w w' : World} (h : Tb w) (g : Bl w w') : Tb w' := Lib.tabBelow_of_tabIs h w' g
theorem itoa1 (n : Int) (h0 : -9223372036854775808 ≤ n) (h1 : n ≤ 9223372036854775807) (w : World) (hT : Tb w) : Calls Tryd.prog 63 #[.int .i64 n] w (Rt w (.string (itS n))) :=
  (sh_strconv_Itoa n h0 h1 w hT).mono fun e w' ⟨h, k, os, hw⟩ => ⟨h, by rw [hw]; exact ((Gr.refl w).drewN k).grow os⟩
/-- An event's text. -/
def shS (e : Ev) : ByteArray := ⟨(showE e).toArray⟩
def tx32 (n : Nat) (l : List Int) : ByteArray := ⟨(enL n ++ wordsT l).toArray⟩
theorem tx32_snoc (n : Nat) (l : List Int) (x : Int) : tx32 n (l ++ [x]) = tx32 n l ++ (⟨#[32]⟩ ++ itS x) := by
  unfold tx32 itS
  rw [wordsT_app, show (⟨#[32]⟩ : ByteArray) = ⟨([32] : List UInt8).toArray⟩ from rfl, ← bsE_app, ← bsE_app]
  congr 1
  simp [wordsT]
theorem tx32_one (n : Nat) (x : Int) : tx32 n [x] = enS n ++ ⟨#[32]⟩ ++ itS x := by
  unfold tx32 itS enS
  rw [show (⟨#[32]⟩ : ByteArray) = ⟨([32] : List UInt8).toArray⟩ from rfl, ← bsE_app, ← bsE_app]
  congr 1
  simp [wordsT]
theorem enS_size {n : Nat} (h : n < 6) : (enS n).size ≤ 7 := by
  have : ∀ m : Fin 6, (enL m.1).length ≤ 7 := by decide
  exact this ⟨n, h⟩
set_option maxRecDepth 100000 in
set_option maxHeartbeats 2000000 in
theorem evShow0 (e : Ev) (w : World) (h : ¬ (0 ≤ e.k ∧ e.k ≤ 5)) : Calls Tryd.prog 38 #[vE e] w (fun x w' => x = .returned (.string (shS e)) ∧ Bl w w') := by
  have hs : shS e = ⟨#[]⟩ := by unfold shS showE; rw [if_neg h]
  rw [hs]
  obtain ⟨k, id, a, b⟩ := e
  have c1 := fun V => findE0 k h V
  unfold vE
  dsimp only at *
  clear hs
  go_enter Tryd.func38, Tryd.ntmps38
  go_wp2_with fail
  refine (c1 _).mono ?_
  rintro e w1 ⟨rfl, g1⟩
  go_wp2
  go_ret
  exact ⟨rfl, (((Bl.refl w).alloc _).gr g1).alloc _⟩
set_option maxRecDepth 100000 in
set_option maxHeartbeats 4000000 in
theorem evShow1 (e : Ev) (n : Nat) (hn : e.k = n) (h6 : n < 6) (hi : I64e e) (w : World) (hS : Sh w) (hT : Tb w) : Calls Tryd.prog 38 #[vE e] w (fun x w' => x = .returned (.string (shS e)) ∧ Bl w w') := by
  have hkn : e.k.toNat = n := by omega
  have hs : shS e = tx32 n (e.id :: numsE e) := by unfold shS tx32 showE; rw [if_pos (by omega), hkn]
  have hl2 := (efL_ok h6).2.2
  have hnum : numsE e = ([e.a, e.b] : List Int).take (efL n).length := by unfold numsE; rw [hkn]
  rw [hs, hnum]
  have c1 := fun V g => findE1 n h6 V (hS.bl g)
  rw [← hn] at c1
  have cs := fun V => split1 e (efS n) (efL n).length rfl hl2 V
  have ci := fun x (h0 : -9223372036854775808 ≤ x) (h1 : x ≤ 9223372036854775807) V g => itoa1 x h0 h1 V (hT.bl g)
  have hNs := enS_size h6
  have hone := tx32_one n e.id
  have hsn := tx32_snoc n
  obtain ⟨k, id, a, b⟩ := e
  obtain ⟨hk, ⟨i0, i1⟩, ⟨a0, a1⟩, ⟨b0, b1⟩⟩ := hi
  unfold vE at *
  dsimp only at *
  have hidz := itS_size i0 i1
  have cid := ci id i0 i1
  generalize hm : (efL n).length = m at *
  generalize enS n = N at *
  generalize efS n = F at *
  replace ci := Lib.hid ci
  replace hone := Lib.hid hone
  replace hsn := Lib.hid hsn
  clear hs hnum hkn hn hS hT hm
  have hb1 : (⟨#[32]⟩ : ByteArray).size = 1 := rfl
  go_enter Tryd.func38, Tryd.ntmps38
  go_wp2_with fail
  refine (c1 _ ((Bl.refl w).alloc _)).mono ?_
  rintro e w1 ⟨rfl, g1⟩
  have X := ((At.new w #[.int .i64 k, .int .i64 id, .int .i64 a, .int .i64 b] 65).gr g1).alloc (.cells #[.string N, .string F] 119)
  have Y := At.new w1 #[.string N, .string F] 119
  have G1 := (((Bl.refl w).alloc (.cells #[.int .i64 k, .int .i64 id, .int .i64 a, .int .i64 b] 65)).gr g1).alloc (.cells #[.string N, .string F] 119)
  clear c1 g1
  go_wp2
  generalize w1.alloc (.cells #[.string N, .string F] 119) = w2 at *
  generalize w1.heap.size = p at *
  have Y0 : ∀ (d : Nat) (os : Array Obj), (grow (w2.drewN d) os).cell? ⟨p, 0, none⟩ = some (.string N) := fun d os => Y.cells d os 0
  have X1 : ∀ (d : Nat) (os : Array Obj), (grow (w2.drewN d) os).cell? ⟨w.heap.size, 1, none⟩ = some (.int .i64 id) := fun d os => X.cells d os 1
  have cid2 : ∀ (d : Nat) (os : Array Obj), Calls Tryd.prog 63 #[.int .i64 id] (grow (w2.drewN d) os) (Rt (grow (w2.drewN d) os) (.string (itS id))) := fun d os => cid _ (G1.trans (((Bl.refl w2).drewN d).grow os))
  clear cid
  refine wp_region_quiet_grown (by kernel_rfl) (by kernel_rfl) ?_
  repeat (first | go_big_quiet_step (exact Calls.grown (cid2 _ _)) | quiet_step (exact Calls.grown (cid2 _ _)))
  refine wpQuiet_nil ?_
  intro w3 g3
  replace g3 : Gr _ w3 := g3
  have X3 := X.gr g3
  have Y3 := Y.gr g3
  have G3 := G1.gr g3
  rw [← hone.out]
  obtain ⟨T0, hT0⟩ : ∃ T, T = tx32 n [id] := ⟨_, rfl⟩
  have hTz : T0.size ≤ 29 := by
    rw [hT0, hone.out]
    simp only [ByteArray.size_append]
    omega
  rw [← hT0]
  replace hT0 := Lib.hid hT0
  obtain ⟨k0, k1, k2, k3⟩ := cells4E X3
  have y1 : w3.cell? ⟨p, 1, none⟩ = some (.string F) := Y3.cell 1
  clear Y0 X1 cid2 X Y G1 hone hidz hNs
  go_wp2_with fail
  refine (cs _).mono ?_
  rintro e w4 ⟨g, A4, c4, rfl, _, B4, g4⟩
  have G4 := G3.gr g4
  clear k0 k1 k2 k3 y1 X3 Y3 G3 cs g3 g4
  go_wp2
  go_loopw [5, 34] (fun o i wr => ∃ (q : Nat) (T : ByteArray), q ≤ m ∧ o = .string T ∧ i = .int .i64 ((q : Nat) : Int) ∧ Gr w4 wr ∧ Hid (T = tx32 n (id :: ([a, b] : List Int).take q)) ∧ T.size ≤ 29 + 22 * q) (fun _ i _ => m - (intOf i).toNat)
  case atStart => exact ⟨0, T0, Nat.zero_le _, rfl, rfl, Gr.refl _, Lib.hid hT0.out, by omega⟩
  case round =>
    obtain ⟨q, T, hq, rfl, rfl, G, hT, hTs⟩ := hrel
    by_cases hlt : q < m
    · have q1 : (q : Int) < m := by omega
      obtain ⟨x, hx, hc, x0, x1⟩ : ∃ x, ([a, b] : List Int)[q]? = some x ∧ wr.cell? ⟨g, q, none⟩ = some (.int .i64 x) ∧ -9223372036854775808 ≤ x ∧ x ≤ 9223372036854775807 := by
        have b0 := (B4.gr G).cell 0
        have b1 := (B4.gr G).cell 1
        have h2 : q = 0 ∨ q = 1 := by omega
        rcases h2 with rfl | rfl
        · exact ⟨a, rfl, b0, a0, a1⟩
        · exact ⟨b, rfl, b1, by assumption, by assumption⟩
      have cx := ci.out x x0 x1
      have hxz := itS_size x0 x1
      have hnx : T ++ (⟨#[32]⟩ ++ itS x) = tx32 n (id :: ([a, b] : List Int).take (q + 1)) := by
        rw [take_snocE hx, ← List.cons_append, hsn.out, hT.out]
      have hnz : (T ++ (⟨#[32]⟩ ++ itS x)).size ≤ 29 + 22 * (q + 1) := by
        simp only [ByteArray.size_append]
        omega
      replace hnx := Lib.hid hnx
      replace hnz := Lib.hid hnz
      have GG := G4.gr G
      clear hx
      go_wp2_with fail
      refine (cx _ GG).mono ?_
      rintro e w5 ⟨rfl, g5⟩
      go_wp2
      go_roundw
      case rel => exact ⟨q + 1, T ++ (⟨#[32]⟩ ++ itS x), by omega, by rfl, by go_num, G.trans g5, hnx, hnz.out⟩
      case measure => simp [intOf]; omega
    · obtain rfl : q = m := by omega
      have q2 : ¬ (q : Int) < q := by omega
      have hT' := hT.out
      replace hT' := Lib.hid hT'
      go_wp2
      go_ret
      exact ⟨by rw [hT'.out]; rfl, G4.gr G⟩
theorem evShow (e : Ev) (hi : I64e e) (w : World) (hS : Sh w) (hT : Tb w) : Calls Tryd.prog 38 #[vE e] w (fun x w' => x = .returned (.string (shS e)) ∧ Bl w w') := by
  by_cases h : 0 ≤ e.k ∧ e.k ≤ 5
  · exact evShow1 e e.k.toNat (by omega) (by omega) hi w hS hT
  · exact evShow0 e w h

end Go.Proofs.YthkbenhlhldglaaDoor
