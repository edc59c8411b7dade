/-
  What is proved: what Decimal and Show of the document's package of events, and Show of package event, hand back. Conditions: numbers are ints; the tables (Show) read as their initialisers lay them.
-/
import Derived.Test.YthkbenhlhldglaaDoorDd
import Derived.Test.YthkbenhlhldglaaDoorDb
import Derived.Deep.RegionHeld3
namespace Go.Proofs.YthkbenhlhldglaaDoor
open Go.RowKit Go.Sort

/-- A decimal as a text. -/
def itS (n : Int) : ByteArray := ⟨(Lib.itoa n).toArray⟩
theorem itS_size {n : Int} (h0 : -9223372036854775808 ≤ n) (h1 : n ≤ 9223372036854775807) : (itS n).size ≤ 21 := itoa_len h0 h1
theorem dig_text {d : Nat} (h : d < 10) : strOfNums [48 + (d : Int)] = ⟨#[UInt8.ofNat (48 + d)]⟩ := by
  unfold strOfNums
  have : (48 + (d : Int)).toNat = 48 + d := by omega
  simp [this]
theorem tdiv10 (n : Int) : (n.tdiv 10).natAbs = n.natAbs / 10 ∧ (-9223372036854775808 ≤ n → n ≤ 9223372036854775807 → -9223372036854775808 ≤ n.tdiv 10 ∧ n.tdiv 10 ≤ 9223372036854775807) := by
  have h := Int.natAbs_tdiv n 10
  have e : (Int.natAbs 10) = 10 := rfl
  rw [e] at h
  refine ⟨h, fun h0 h1 => ?_⟩
  have h2 : n.natAbs ≤ 9223372036854775808 := by omega
  have h3 : (n.tdiv 10).natAbs ≤ 922337203685477580 := by rw [h]; exact Nat.div_le_div_right (c := 10) h2
  generalize n.tdiv 10 = q at *
  clear h h2
  omega
theorem bsE_app (x y : List UInt8) : (⟨(x ++ y).toArray⟩ : ByteArray) = ⟨x.toArray⟩ ++ ⟨y.toArray⟩ := by
  apply ByteArray.ext
  simp
set_option maxRecDepth 100000 in
set_option maxHeartbeats 2000000 in
theorem decimal_step (n : Int) (h0 : -9223372036854775808 ≤ n) (h1 : n ≤ 9223372036854775807) (w : World)
    (ih : ¬ (-10 < n ∧ n < 10) → ∀ V : World, Calls Tryd.prog 65 #[.int .i64 (n.tdiv 10)] V (Rt V (.string (itS (n.tdiv 10))))) :
    Calls Tryd.prog 65 #[.int .i64 n] w (Rt w (.string (itS n))) := by
  obtain ⟨d, hd⟩ : ∃ d : Nat, d = (n.tmod 10).natAbs := ⟨_, rfl⟩
  have hd9 : d < 10 := by
    rw [hd, Int.natAbs_tmod]
    exact Nat.mod_lt _ (by decide)
  have hsm : -10 < n → n < 10 → n.natAbs = d := fun h h' => by
    rw [hd, Int.natAbs_tmod, Nat.mod_eq_of_lt (by omega)]
  have hq0 := (tdiv10 n).2 h0 h1
  have hsz := itS_size hq0.1 hq0.2
  have hbig : ¬ (-10 < n ∧ n < 10) → itS n = itS (n.tdiv 10) ++ ⟨#[UInt8.ofNat (48 + d)]⟩ := fun h => by
    unfold itS
    rw [itoa_big h, ← hd, bsE_app]
  have hb : (48 + (d : Int)) % 256 = 48 + (d : Int) := by omega
  have t1 := Sv.text (c := 1) (RwB.blk (L := [48 + (d : Int)]) (At.new w #[.int .u8 (48 + (d : Int))] 5))
  rw [dig_text hd9] at t1
  simp only [List.length_cons, List.length_nil, Nat.reduceAdd] at t1
  have G : Gr w (w.alloc (.cells #[.int .u8 (48 + (d : Int))] 5)) := (Gr.refl w).alloc _
  have hS : (⟨#[UInt8.ofNat (48 + d)]⟩ : ByteArray).size = 1 := rfl
  have hsmall : -10 < n → n < 10 → itS n = if n < 0 then ⟨#[45, UInt8.ofNat (48 + d)]⟩ else ⟨#[UInt8.ofNat (48 + d)]⟩ := fun h h' => by
    unfold itS
    rw [itoa_small h h', hsm h h']
    split <;> rfl
  generalize hSS : (⟨#[UInt8.ofNat (48 + d)]⟩ : ByteArray) = S at *
  replace hbig := Lib.hid hbig
  replace hsmall := Lib.hid hsmall
  replace hSS := Lib.hid hSS
  replace ih := Lib.hid ih
  by_cases hs : n.tmod 10 < 0
  · have e1 : n.tmod 10 = -(d : Int) := by omega
    have e2 : -(d : Int) < 0 := by omega
    clear hd hsm hs
    by_cases hw : -10 < n ∧ n < 10
    · obtain ⟨w0, w1⟩ := hw
      have hsm' := hsmall.out w0 w1
      replace hsm' := Lib.hid hsm'
      by_cases hn : n < 0
      · go_enter Tryd.func65, Tryd.ntmps65
        go_wp2
        go_ret
        refine ⟨?_, G⟩
        rw [hsm'.out, if_pos hn, show (⟨#[45, UInt8.ofNat (48 + d)]⟩ : ByteArray) = ⟨#[45]⟩ ++ ⟨#[UInt8.ofNat (48 + d)]⟩ from bsE_app [45] [UInt8.ofNat (48 + d)], hSS.out]; rfl
      · go_enter Tryd.func65, Tryd.ntmps65
        go_wp2
        go_ret
        refine ⟨?_, G⟩
        rw [hsm'.out, if_neg (by omega)]; rfl
    · have ih' := Lib.hid (ih.out hw)
      have hb' := Lib.hid (hbig.out hw)
      by_cases w0 : -10 < n
      · have w1 : ¬ n < 10 := by omega
        clear hw
        go_enter Tryd.func65, Tryd.ntmps65
        go_wp2_with fail
        refine (ih'.out _).mono ?_
        rintro e w2 ⟨rfl, g2⟩
        go_wp2
        go_ret
        refine ⟨?_, G.trans g2⟩
        rw [hb'.out]; rfl
      · clear hw
        go_enter Tryd.func65, Tryd.ntmps65
        go_wp2_with fail
        refine (ih'.out _).mono ?_
        rintro e w2 ⟨rfl, g2⟩
        go_wp2
        go_ret
        refine ⟨?_, G.trans g2⟩
        rw [hb'.out]; rfl
  · have e1 : n.tmod 10 = (d : Int) := by omega
    have e2 : ¬ (d : Int) < 0 := by omega
    clear hd hsm hs
    by_cases hw : -10 < n ∧ n < 10
    · obtain ⟨w0, w1⟩ := hw
      have hsm' := hsmall.out w0 w1
      replace hsm' := Lib.hid hsm'
      by_cases hn : n < 0
      · go_enter Tryd.func65, Tryd.ntmps65
        go_wp2
        go_ret
        refine ⟨?_, G⟩
        rw [hsm'.out, if_pos hn, show (⟨#[45, UInt8.ofNat (48 + d)]⟩ : ByteArray) = ⟨#[45]⟩ ++ ⟨#[UInt8.ofNat (48 + d)]⟩ from bsE_app [45] [UInt8.ofNat (48 + d)], hSS.out]; rfl
      · go_enter Tryd.func65, Tryd.ntmps65
        go_wp2
        go_ret
        refine ⟨?_, G⟩
        rw [hsm'.out, if_neg (by omega)]; rfl
    · have ih' := Lib.hid (ih.out hw)
      have hb' := Lib.hid (hbig.out hw)
      by_cases w0 : -10 < n
      · have w1 : ¬ n < 10 := by omega
        clear hw
        go_enter Tryd.func65, Tryd.ntmps65
        go_wp2_with fail
        refine (ih'.out _).mono ?_
        rintro e w2 ⟨rfl, g2⟩
        go_wp2
        go_ret
        refine ⟨?_, G.trans g2⟩
        rw [hb'.out]; rfl
      · clear hw
        go_enter Tryd.func65, Tryd.ntmps65
        go_wp2_with fail
        refine (ih'.out _).mono ?_
        rintro e w2 ⟨rfl, g2⟩
        go_wp2
        go_ret
        refine ⟨?_, G.trans g2⟩
        rw [hb'.out]; rfl
theorem decimal1 : ∀ (m : Nat) (n : Int), n.natAbs ≤ m → -9223372036854775808 ≤ n → n ≤ 9223372036854775807 → ∀ w : World, Calls Tryd.prog 65 #[.int .i64 n] w (Rt w (.string (itS n)))
  | m, n, hm, h0, h1, w => by
    refine decimal_step n h0 h1 w fun hw V => ?_
    obtain ⟨e, e2⟩ := tdiv10 n
    have e3 := e2 h0 h1
    cases m with
    | zero => exact absurd ⟨by omega, by omega⟩ hw
    | succ m => exact decimal1 m (n.tdiv 10) (by rw [e]; exact Nat.le_of_lt_succ (Nat.lt_of_lt_of_le (Nat.div_lt_self (by omega) (by decide)) hm)) e3.1 e3.2 V

end Go.Proofs.YthkbenhlhldglaaDoor
