/-
  What is proved: small functions of package title, and what a range over its Signs comes to. No conditions but bounds.
-/
import Derived.Test.YteljpabhcmihoaaDoorVw
import Derived.Test.YteljpabhcmihoaaDoorVl
import Derived.Test.YteljpabhcmihoaaDoorVs
import Derived.RangeFuncNested
import Derived.RangeFuncBound
import Derived.RangeFuncCalls
import Derived.RangeFuncLeaves
import Derived.Shelf.Abstract
import Derived.Shelf.RegionOpen
import Derived.WalkKit
import Derived.OwnWalkIn
import Derived.TacticsInMore
import Derived.LoopNIn
import Derived.LoopIn
import Derived.Lib.OthersKept
import Derived.Lib.QuietBelow
namespace Go.Proofs.YteljpabhcmihoaaDoor
open Go.RowKit Go.Sort Go.Shelf
attribute [local go_sem] Oper.semAt_some

/-- A call that hands v back, and turns nothing that was there. -/
def Bt (w : World) (v : Value) (e : Ending) (w' : World) : Prop := e = .returned v ∧ Bl w w'

/-- Is a number one of those from a to b. -/
def btwB (r a b : Int) : Bool := decide (a ≤ r ∧ r ≤ b)
theorem between1 (r a b : Int) (w : World) : Calls Tryd.prog 102 #[.int .i32 r, .int .i32 a, .int .i32 b] w fun e w' => e = .returned (.bool (btwB r a b)) ∧ w = w' := by
  unfold btwB
  by_cases h : a ≤ r
  · by_cases k : r ≤ b
    · rw [decide_eq_true ⟨h, k⟩]
      go_enter Tryd.func102, Tryd.ntmps102
      go_wp2
      go_ret
      exact ⟨rfl, rfl⟩
    · rw [decide_eq_false (fun h' => k h'.2)]
      go_enter Tryd.func102, Tryd.ntmps102
      go_wp2
      go_ret
      exact ⟨rfl, rfl⟩
  · rw [decide_eq_false (fun h' => h h'.1)]
    have k : decide (a ≤ r) = false := decide_eq_false h
    go_enter Tryd.func102, Tryd.ntmps102
    go_wp2
    go_ret
    exact ⟨rfl, rfl⟩
/-- A sign's width. -/
def widZ (r : Int) : Int := if btwB r 768 879 = true then 0 else if btwB r 4352 4447 = true then 2 else if btwB r 11904 42191 = true then 2 else if btwB r 44032 55203 = true then 2 else if btwB r 65280 65376 = true then 2 else if btwB r 127744 129791 = true then 2 else 1
theorem widZ_bd (r : Int) : 0 ≤ widZ r ∧ widZ r ≤ 2 := by
  unfold widZ
  repeat' split
  all_goals omega
def oddB (r : Int) : Bool := decide (r < 32 ∨ r = 127 ∨ (8232 ≤ r ∧ r ≤ 8238))
theorem odd1 (r : Int) (w : World) : Calls Tryd.prog 95 #[.int .i32 r] w fun e w' => e = .returned (.bool (oddB r)) ∧ w = w' := by
  have c := between1 r 8232 8238
  by_cases h : r < 32
  · rw [show oddB r = true from decide_eq_true (.inl h)]
    go_enter Tryd.func95, Tryd.ntmps95
    go_wp2
    go_ret
    exact ⟨rfl, rfl⟩
  · by_cases k : r = 127
    · subst k
      go_enter Tryd.func95, Tryd.ntmps95
      go_wp2
      go_ret
      exact ⟨rfl, rfl⟩
    · have e : oddB r = btwB r 8232 8238 := by unfold oddB btwB; rw [Bool.eq_iff_iff]; simp; omega
      rw [e]
      have q : (r == 127) = false := by simpa using k
      have q2 : decide (r < 32) = false := decide_eq_false h
      generalize btwB r 8232 8238 = b at *
      clear e
      go_enter Tryd.func95, Tryd.ntmps95
      go_wp2_with fail
      refine (c _).mono ?_
      rintro e w' ⟨rfl, rfl⟩
      go_wp2
      go_ret
      exact ⟨rfl, rfl⟩

/-- The sign k of a text. -/
def rAt (l : List UInt8) (k : Fin (sgs l).length) : Int := ((sgs l)[k.1]'k.2).r
theorem sgs_get (l : List UInt8) (k : Fin (sgs l).length) : (sgs l)[k.1]? = some ((sgs l)[k.1]'k.2) := List.getElem?_eq_getElem k.2
theorem pre_bad {l : List UInt8} (h : l ≠ []) (hr : (sg1 l).r = 65533) : Lib.hasPrefix l [239, 191, 189] = !(sg1 l).bad := by
  have e : Lib.encodeRune 65533 = [239, 191, 189] := by decide
  cases hb : (sg1 l).bad
  · obtain ⟨_, h2⟩ := enc_dc h hb
    have h3 : ((dcL l).1 : Int) = 65533 := hr
    rw [h3, e] at h2
    unfold Lib.hasPrefix
    show _ = true
    rw [List.isPrefixOf_iff_prefix, ← h2]
    exact List.take_prefix _ _
  · show _ = false
    rw [Bool.eq_false_iff]
    intro hp
    obtain ⟨t, rfl⟩ := List.isPrefixOf_iff_prefix.1 hp
    rw [← e] at hb
    have h4 := sg1_enc (c := 65533) (.inr (by omega)) t
    rw [h4] at hb
    cases hb
theorem sg1_bad {l : List UInt8} (_ : l ≠ []) (hr : (sg1 l).r ≠ 65533) : (sg1 l).bad = false := by
  cases hb : (sg1 l).bad
  · rfl
  · have h1 : (dcL l).1 = 65533 ∧ (dcL l).2 = 1 := by simpa [sg1, isBad] using hb
    exact absurd (by unfold sg1; dsimp only; rw [h1.1]; rfl) hr
theorem extract_list (s : ByteArray) (a e : Nat) : (s.extract a e).data.toList = (s.data.toList.take e).drop a := by
  rw [ByteArray.data_extract, Array.toList_extract]
  rw [List.extract_eq_take_drop, List.drop_take]
theorem broken1 (s : ByteArray) (_ : s.size ≤ 9223372036854775807) (k : Nat) (x : Sg) (hx : (sgs s.data.toList)[k]? = some x) (w : World) :
    Calls Tryd.prog 96 #[.string s, .int .i64 (pos s.data.toList k : Nat), .int .i32 x.r] w fun e w' => e = .returned (.bool x.bad) ∧ w = w' := by
  obtain ⟨hp, hx1, _⟩ := sgs_at hx
  have hsz : s.data.toList.length = s.size := Array.length_toList
  rw [hsz] at hp
  have hne : s.data.toList.drop (pos s.data.toList k) ≠ [] := fun e => by
    have := congrArg List.length e
    rw [List.length_drop, hsz] at this
    simp at this
    omega
  by_cases hr : x.r = 65533
  · have hb : Lib.hasPrefix (s.extract (pos s.data.toList k) s.size).data.toList [239, 191, 189] = !x.bad := by
      rw [extract_list, ← hsz, List.take_length]
      rw [hx1] at hr ⊢
      exact pre_bad hne hr
    have c := fun w => sh_strings_HasPrefix (s.extract (pos s.data.toList k) s.size) ⟨#[239, 191, 189]⟩ w
    rw [show (⟨#[239, 191, 189]⟩ : ByteArray).data.toList = [239, 191, 189] from rfl, hb] at c
    rw [hr]
    clear hb hx1 hne hr hx hsz
    generalize pos s.data.toList k = p at *
    have hp' : (p : Int) ≤ s.size := by omega
    go_enter Tryd.func96, Tryd.ntmps96
    go_wp2_with fail
    refine (c _).mono ?_
    rintro e w' ⟨rfl, rfl⟩
    go_wp2
    go_ret
    exact ⟨by simp, rfl⟩
  · have hb : x.bad = false := by rw [hx1] at hr ⊢; exact sg1_bad hne hr
    have q : (x.r == 65533) = false := by simpa using hr
    rw [hb]
    clear hx1 hx hne hsz hb
    go_enter Tryd.func96, Tryd.ntmps96
    go_wp2
    go_ret
    exact ⟨rfl, rfl⟩

theorem signs1 (s : ByteArray) (w : World) : Calls Tryd.prog 94 #[.string s] w fun e w' => e = .returned (.func (.func 101) #[] #[.pointer (some ⟨w.heap.size, 0, none⟩)]) ∧ w' = w.alloc (.cells #[.string s] 9) := by
  go_enter Tryd.func94, Tryd.ntmps94
  go_wp2
  go_ret
  exact ⟨rfl, rfl⟩

theorem At.same {w w' : World} {b : Nat} {cs : Array Value} {t : TypeId} (h : At w b cs t) (e : w'.heap[b]? = w.heap[b]?) : At w' b cs t := by unfold At at *; rw [e]; exact h
theorem by_iterAt (w : World) (k : Nat) (s : ByteArray) (p : Nat) : w.grownBy (w.iterAt k s p) (some k) := ⟨rfl, rfl, rfl, by rw [Lib.iterAt_size]; exact Nat.le_refl _, fun i _ hne => Lib.iterAt_other w k i s p (fun e => hne (by rw [e]))⟩
/-- What Signs tells of a sign. -/
def sgV (l : List UInt8) (k : Fin (sgs l).length) : Array Value := #[.int .i64 (pos l k.1 : Nat), .int .i32 (rAt l k)]

set_option maxRecDepth 100000 in
set_option maxHeartbeats 2000000 in
theorem signsIter (n : Nat) (hn : 1 ≤ n) (l0 Bs ts : Nat) (s : ByteArray) (_ : s.size ≤ 9223372036854775807) (J Jx : List (Fin (sgs s.data.toList).length) → World → Prop) (V : World)
    (hA : ∀ pre A B row, J pre A → A.grownBy B row → (∀ r, row = some r → V.heap.size ≤ r ∧ ∃ o : Obj, A.heap[r]? = some o ∧ o.isWalk = true) → J pre B)
    (hY : ∀ pre k W1, J pre W1 → pre.length < (sgs s.data.toList).length → YieldAt Fence.wide (n - 1) Tryd.prog l0 (sgV s.data.toList k) W1 fun e W' =>
      (e = .returned (.bool true) ∧ J (pre ++ [k]) W' ∧ KeepsWalks W1 W') ∨ (e = .returned (.bool false) ∧ Jx (pre ++ [k]) W'))
    (hb : At V Bs #[.string s] ts) (h0 : J [] V) :
    CallsIn Fence.wide n Tryd.prog 101 #[.func (.yield l0) #[] #[], .pointer (some ⟨Bs, 0, none⟩)] V fun e W' => (∃ v, e = .returned v) ∧
      ((∃ ys : List (Fin (sgs s.data.toList).length), ys.map (·.1) = List.range (sgs s.data.toList).length ∧ J ys W') ∨ (∃ pre : List (Fin (sgs s.data.toList).length), pre.map (·.1) <+: List.range (sgs s.data.toList).length ∧ Jx pre W')) := by
  refine callsIn_of_wp Tryd.func101 rfl trivial ?_ rfl
  simp only [Tryd.ntmps101, List.size_toArray, List.length_cons, List.length_nil, Nat.reduceAdd, Nat.reduceSub, Array.replicate_succ, Array.replicate_zero, List.push_toArray, List.append_toArray, List.nil_append, List.cons_append]
  have b1 : V.cell? ⟨Bs, 0, none⟩ = some (.string s) := hb.cell 0
  have hsz : s.data.toList.length = s.size := Array.length_toList
  have hdec := decode_dcL s
  generalize hl : s.data.toList = l at *
  replace hsz := Lib.hid hsz
  replace hdec := Lib.hid hdec
  replace hl := Lib.hid hl
  have hJ0 := hA [] V (V.iter s 0) none h0 (((Gr.refl V).alloc (.stringIter s 0)).bl.by) (fun r e => by cases e)
  have hi0 : (V.iter s 0).heap[V.heap.size]? = some (.stringIter s (pos l 0)) := World.iter_heap V s 0
  gi_wp2
  clear b1
  gi_loopw [] (fun wr => ∃ (k : Nat) (pre : List (Fin (sgs l).length)), k ≤ (sgs l).length ∧ Hid (pre.map (·.1) = List.range k) ∧ J pre wr ∧ wr.heap[V.heap.size]? = some (.stringIter s (pos l k)))
    (fun wr => s.size - wr.iterPos V.heap.size)
  case atStart => exact ⟨0, [], Nat.zero_le _, Lib.hid rfl, hJ0, hi0⟩
  case round =>
    obtain ⟨k, pre, hk, hpre, hJ, hit⟩ := hrel
    have hlen : pre.length = k := by have := congrArg List.length hpre.out; simpa using this
    have hip : wr.iterPos V.heap.size = pos l k := by unfold World.iterPos; rw [hit]
    by_cases hlt : k < (sgs l).length
    · have hx := sgs_get l ⟨k, hlt⟩
      have hYY := hY pre ⟨k, hlt⟩ (wr.iterAt V.heap.size s (pos l (k + 1))) (hA _ _ _ _ hJ (by_iterAt wr V.heap.size s (pos l (k + 1))) (fun r e => by cases e; exact ⟨Nat.le_refl _, _, hit, rfl⟩)) (by omega)
      obtain ⟨hp, hx1, hx2⟩ := sgs_at hx
      have hps := pos_succ hx
      have hit2 := Lib.iterAt_heap wr V.heap.size s (pos l k) (pos l (k + 1)) hit
      have rv : sgV l ⟨k, hlt⟩ = #[.int .i64 (pos l k : Nat), .int .i32 ((dcL (l.drop (pos l k))).1 : Int)] := by
        unfold sgV rAt
        rw [hx1]
        rfl
      have hnx : ∀ ty, (Instr.next (.pointer (some ⟨V.heap.size, 0, none⟩)) true ty).run Tryd.prog wr = .ok (.tuple #[.bool true, .int .i64 (pos l k : Nat), .int .i32 ((dcL (l.drop (pos l k))).1 : Int)]) (wr.iterAt V.heap.size s (pos l (k + 1))) := fun ty => by
        rw [Lib.run_next_any_at wr V.heap.size s (pos l k) ty hit (by rw [← hsz.out]; exact hp), hdec.out, hps, hx2]
      have hms : pos l k < pos l (k + 1) := pos_lt (by omega) (by omega)
      rw [rv] at hYY
      rw [hsz.out] at hp
      clear rv hps hx1 hx2 hx hY hA hJ
      replace hit := Lib.hid hit
      replace hip := Lib.hid hip
      replace hlen := Lib.hid hlen
      generalize wr.iterAt V.heap.size s (pos l (k + 1)) = W1 at *
      generalize ((dcL (l.drop (pos l k))).1 : Int) = r at *
      replace hit2 := Lib.hid hit2
      obtain ⟨fn, tmps, assign, body, hyy, hR⟩ := hYY
      gi_wp2_with fail
      refine hR.mono ?_
      rintro e W3 (⟨rfl, hJ3, hk3⟩ | ⟨rfl, hJx3⟩)
      · have hit3 := hk3.same _ _ hit2.out rfl
        replace hit3 := Lib.hid hit3
        gi_wp2
        go_roundw
        case rel => exact ⟨k + 1, pre ++ [⟨k, hlt⟩], by omega, Lib.hid (by rw [List.map_append, hpre.out, List.range_succ]; rfl), hJ3, hit3.out⟩
        case measure => rw [hip.out]; unfold World.iterPos; rw [hit3.out]; dsimp only; omega
      · gi_wp2
        refine bodyPost_ret (results_none rfl _ _ _) rfl ?_
        refine ⟨⟨_, rfl⟩, .inr ⟨pre ++ [⟨k, hlt⟩], ?_, hJx3⟩⟩
        rw [List.map_append, hpre.out]
        refine ⟨List.range' (k + 1) ((sgs l).length - (k + 1)), ?_⟩
        show List.range k ++ [k] ++ _ = _
        rw [← List.range_succ, List.range_eq_range', List.range_eq_range']
        have := List.range'_append_1 (s := 0) (m := k + 1) (n := (sgs l).length - (k + 1))
        rw [Nat.zero_add] at this
        rw [this, show k + 1 + ((sgs l).length - (k + 1)) = (sgs l).length by omega]
    · obtain rfl : k = (sgs l).length := by omega
      have hnx : ∀ ty, (Instr.next (.pointer (some ⟨V.heap.size, 0, none⟩)) true ty).run Tryd.prog wr = .ok (.tuple #[.bool false]) wr := fun ty =>
        Lib.run_next_end_at wr V.heap.size s _ ty hit (by rw [pos_end, hsz.out]; omega)
      clear hY hA
      replace hit := Lib.hid hit
      replace hip := Lib.hid hip
      replace hlen := Lib.hid hlen
      gi_wp2
      go_end0
      exact ⟨⟨_, rfl⟩, .inl ⟨pre, hpre.out, hJ⟩⟩

theorem signsStops (n : Nat) (hn : 1 ≤ n) (Bs ts : Nat) (s : ByteArray) (hs : s.size ≤ 9223372036854775807) (V : World) (hb : At V Bs #[.string s] ts) :
    SeqStopsK Fence.wide n Tryd.prog 101 #[.pointer (some ⟨Bs, 0, none⟩)] (sgV s.data.toList) KeepsWalks
      (fun ks => ks.map (·.1) = List.range (sgs s.data.toList).length) (fun pre => pre.map (·.1) <+: List.range (sgs s.data.toList).length) (sgs s.data.toList).length V := fun l J Jx W' hW' hJ _ hY h0 =>
  signsIter n hn l Bs ts s hs J Jx W' hJ hY (hb.same (hW'.block _ hb.lt)) h0

end Go.Proofs.YteljpabhcmihoaaDoor
