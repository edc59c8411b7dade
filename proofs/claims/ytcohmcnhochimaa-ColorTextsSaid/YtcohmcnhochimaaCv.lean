/-
  What is proved: what the document's Show hands back.
-/
import Derived.Test.YtcohmcnhochimaaCu
import Derived.Laws.Concat
namespace Go.Proofs.Ytcohmcnhochimaa
open Go.RowKit Go.Sort

def db (n : Int) : UInt8 := UInt8.ofNat (dg n).toNat
theorem lit_cut {q : Int} (h0 : 0 ≤ q) (h1 : q < 16) : (⟨#[48, 49, 50, 51, 52, 53, 54, 55, 56, 57, 97, 98, 99, 100, 101, 102]⟩ : ByteArray).extract q.toNat (q + 1).toNat = ⟨#[db q]⟩ := by
  obtain ⟨n, rfl⟩ := Int.eq_ofNat_of_zero_le h0
  have : ∀ n : Fin 16, ((⟨#[48, 49, 50, 51, 52, 53, 54, 55, 56, 57, 97, 98, 99, 100, 101, 102]⟩ : ByteArray).extract n.1 (n.1 + 1)).data = #[db n.1] := by decide
  have h := this ⟨n, by omega⟩
  rw [show ((n : Int)).toNat = n from rfl, show ((n : Int) + 1).toNat = n + 1 from by omega]
  exact ByteArray.ext h
theorem prs_ex (s : ByteArray) : ∃ v b, Prs s v b := by
  by_cases h : s.size = 8 ∧ okP s 8
  · exact ⟨hx s 8, true, .inl ⟨h.1, h.2, rfl, rfl⟩⟩
  · exact ⟨0, false, .inr ⟨h, rfl, rfl⟩⟩
theorem PQ.rt {s : ByteArray} {w w' : World} {e : Ending} {v : Int} {b : Bool} (h : PQ s w e w') (k : Prs s v b) : Rt w (.tuple #[.int .u32 v, .bool b]) e w' := by
  obtain ⟨v', b', rfl, hp, _, hg⟩ := h
  obtain ⟨rfl, rfl⟩ := hp.one k
  exact ⟨rfl, hg⟩
theorem one_app (b : UInt8) (l : Array UInt8) : ((⟨#[b]⟩ : ByteArray) ++ ⟨l⟩) = ⟨#[b] ++ l⟩ := by
  have := ByteArray.mk_append_mk [b] l.toList
  rw [Array.toArray_toList] at this
  refine this.trans ?_
  congr 1
  apply Array.ext'
  simp

set_option maxRecDepth 100000 in
set_option maxHeartbeats 4000000 in
theorem refshow1 (c : Int) (hc : C32 c) (w : World) : Calls Try.prog 31 #[.int .u32 c] w (Rt w (.string (shS c))) := by
  obtain ⟨hc0, hc1⟩ := hc
  obtain ⟨n0, hn0⟩ : ∃ n, n = c := ⟨_, rfl⟩
  have l0 : 0 ≤ n0 ∧ n0 ≤ 4294967295 := by omega
  obtain ⟨l0a, l0b⟩ := l0
  rw [← hn0]
  replace hn0 := Lib.hid hn0
  clear hc0 hc1
  go_enter Try.func31, Try.ntmps31
  go_wp2
  refine wp_loop_rounds 9 ?_
  have c0 := lit_cut (q := n0 % 16) (by omega) (by omega)
  obtain ⟨b0, hb0⟩ : ∃ b, b = db (n0 % 16) := ⟨_, rfl⟩
  rw [← hb0] at c0
  replace hb0 := Lib.hid hb0
  have l1a : 0 ≤ n0 / 16 := by omega
  have l1b : n0 / 16 ≤ 4294967295 := by omega
  rw [rounds_succ]; go_wp2
  clear c0
  generalize hn1 : n0 / 16 = n1 at l1a l1b ⊢
  replace hn1 := Lib.hid hn1
  have c1 := lit_cut (q := n1 % 16) (by omega) (by omega)
  obtain ⟨b1, hb1⟩ : ∃ b, b = db (n1 % 16) := ⟨_, rfl⟩
  rw [← hb1] at c1
  replace hb1 := Lib.hid hb1
  have l2a : 0 ≤ n1 / 16 := by omega
  have l2b : n1 / 16 ≤ 4294967295 := by omega
  rw [rounds_succ]; go_wp2
  clear c1
  generalize hn2 : n1 / 16 = n2 at l2a l2b ⊢
  replace hn2 := Lib.hid hn2
  have c2 := lit_cut (q := n2 % 16) (by omega) (by omega)
  obtain ⟨b2, hb2⟩ : ∃ b, b = db (n2 % 16) := ⟨_, rfl⟩
  rw [← hb2] at c2
  replace hb2 := Lib.hid hb2
  have l3a : 0 ≤ n2 / 16 := by omega
  have l3b : n2 / 16 ≤ 4294967295 := by omega
  rw [rounds_succ]; go_wp2
  clear c2
  generalize hn3 : n2 / 16 = n3 at l3a l3b ⊢
  replace hn3 := Lib.hid hn3
  have c3 := lit_cut (q := n3 % 16) (by omega) (by omega)
  obtain ⟨b3, hb3⟩ : ∃ b, b = db (n3 % 16) := ⟨_, rfl⟩
  rw [← hb3] at c3
  replace hb3 := Lib.hid hb3
  have l4a : 0 ≤ n3 / 16 := by omega
  have l4b : n3 / 16 ≤ 4294967295 := by omega
  rw [rounds_succ]; go_wp2
  clear c3
  generalize hn4 : n3 / 16 = n4 at l4a l4b ⊢
  replace hn4 := Lib.hid hn4
  have c4 := lit_cut (q := n4 % 16) (by omega) (by omega)
  obtain ⟨b4, hb4⟩ : ∃ b, b = db (n4 % 16) := ⟨_, rfl⟩
  rw [← hb4] at c4
  replace hb4 := Lib.hid hb4
  have l5a : 0 ≤ n4 / 16 := by omega
  have l5b : n4 / 16 ≤ 4294967295 := by omega
  rw [rounds_succ]; go_wp2
  clear c4
  generalize hn5 : n4 / 16 = n5 at l5a l5b ⊢
  replace hn5 := Lib.hid hn5
  have c5 := lit_cut (q := n5 % 16) (by omega) (by omega)
  obtain ⟨b5, hb5⟩ : ∃ b, b = db (n5 % 16) := ⟨_, rfl⟩
  rw [← hb5] at c5
  replace hb5 := Lib.hid hb5
  have l6a : 0 ≤ n5 / 16 := by omega
  have l6b : n5 / 16 ≤ 4294967295 := by omega
  rw [rounds_succ]; go_wp2
  clear c5
  generalize hn6 : n5 / 16 = n6 at l6a l6b ⊢
  replace hn6 := Lib.hid hn6
  have c6 := lit_cut (q := n6 % 16) (by omega) (by omega)
  obtain ⟨b6, hb6⟩ : ∃ b, b = db (n6 % 16) := ⟨_, rfl⟩
  rw [← hb6] at c6
  replace hb6 := Lib.hid hb6
  have l7a : 0 ≤ n6 / 16 := by omega
  have l7b : n6 / 16 ≤ 4294967295 := by omega
  rw [rounds_succ]; go_wp2
  clear c6
  generalize hn7 : n6 / 16 = n7 at l7a l7b ⊢
  replace hn7 := Lib.hid hn7
  have c7 := lit_cut (q := n7 % 16) (by omega) (by omega)
  obtain ⟨b7, hb7⟩ : ∃ b, b = db (n7 % 16) := ⟨_, rfl⟩
  rw [← hb7] at c7
  replace hb7 := Lib.hid hb7
  have l8a : 0 ≤ n7 / 16 := by omega
  have l8b : n7 / 16 ≤ 4294967295 := by omega
  rw [rounds_succ]; go_wp2
  clear c7
  generalize hn8 : n7 / 16 = n8 at l8a l8b ⊢
  replace hn8 := Lib.hid hn8
  rw [rounds_succ]; go_wp2
  go_ret
  have := hn0.out
  have := hn1.out
  have := hn2.out
  have := hn3.out
  have := hn4.out
  have := hn5.out
  have := hn6.out
  have := hn7.out
  have r0 : b0 = db (c / 1 % 16) := by rw [hb0.out]; congr 1; omega
  have r1 : b1 = db (c / 16 % 16) := by rw [hb1.out]; congr 1; omega
  have r2 : b2 = db (c / 256 % 16) := by rw [hb2.out]; congr 1; omega
  have r3 : b3 = db (c / 4096 % 16) := by rw [hb3.out]; congr 1; omega
  have r4 : b4 = db (c / 65536 % 16) := by rw [hb4.out]; congr 1; omega
  have r5 : b5 = db (c / 1048576 % 16) := by rw [hb5.out]; congr 1; omega
  have r6 : b6 = db (c / 16777216 % 16) := by rw [hb6.out]; congr 1; omega
  have r7 : b7 = db (c / 268435456 % 16) := by rw [hb7.out]; congr 1; omega
  refine ⟨?_, Gr.refl w⟩
  congr 2
  rw [one_app, one_app, one_app, one_app, one_app, one_app, one_app, one_app, r0, r1, r2, r3, r4, r5, r6, r7]
  unfold shS shL strOfNums db
  simp [hn0.out]

end Go.Proofs.Ytcohmcnhochimaa
