/-
  What is proved: the document's Signs: a row of all signs of a text. No conditions but a bound.
-/
import Derived.Test.YteljpabhcmihoaaDoorVf
namespace Go.Proofs.YteljpabhcmihoaaDoor
open Go.RowKit Go.Sort Go.Shelf

theorem rone1 (s : ByteArray) (hs : s.size ≤ 1000000) (k : Nat) (x : Sg) (hx : (sgs s.data.toList)[k]? = some x) (w : World) : Calls Tryd.prog 65 #[.string s, .int .i64 (pos s.data.toList k : Nat)] w
    (Rt w (.agg #[.int .i64 (pos s.data.toList k : Nat), .int .i64 (x.bs.length : Nat), .int .i64 x.r, .bool x.bad])) := by
  obtain ⟨hp, h1, h2⟩ := sgs_at hx
  rw [size_list] at hp
  have h := one1 s (pos s.data.toList k) hp hs w
  rw [h2]
  rw [show x.r = ((dcL (s.data.toList.drop (pos s.data.toList k))).1 : Int) by rw [h1]; rfl, show x.bad = isBad (dcL (s.data.toList.drop (pos s.data.toList k))) by rw [h1]; rfl]
  exact h

set_option maxRecDepth 100000 in
set_option maxHeartbeats 4000000 in
theorem rsigns1 (s : ByteArray) (hs : s.size ≤ 1000000) (w : World) : Calls Tryd.prog 47 #[.string s] w
    (fun e w' => ∃ A c, e = .returned (.slice A (sgs s.data.toList).length c) ∧ OwS w' w.heap.size A c (pls s.data.toList) ∧ Bl w w') := by
  have hone := rone1 s hs
  have hN := sgs_len s.data.toList
  have hpl := pls_len s.data.toList
  have hsz := size_list s
  have hpe := pos_end s.data.toList
  rw [hsz] at hN hpe
  generalize hl : s.data.toList = l at *
  replace hl := Lib.hid hl
  obtain ⟨N, hNN⟩ : ∃ N, N = (sgs l).length := ⟨_, rfl⟩
  rw [← hNN] at hN hpl hpe ⊢
  replace hNN := Lib.hid hNN
  replace hsz := Lib.hid hsz
  replace hpl := Lib.hid hpl
  replace hpe := Lib.hid hpe
  go_enter Tryd.func47, Tryd.ntmps47
  go_wp2
  go_loopw [3, 4] (fun v i wr => ∃ (k : Nat) (A : Option Addr) (c : Nat) (O : List Pl), k ≤ N ∧ v = .slice A O.length c ∧ i = .int .i64 (pos l k : Nat) ∧ OwS wr w.heap.size A c O ∧ Hid (O = (pls l).take k) ∧ Bl w wr) (fun _ i _ => s.size - (intOf i).toNat)
  case atStart => exact ⟨0, none, 0, [], Nat.zero_le _, rfl, rfl, OwS.nil _ _, Lib.hid (by simp), Bl.refl _⟩
  case round =>
    obtain ⟨k, A, c, O, hk, rfl, rfl, own, hO, G⟩ := hrel
    have hOl : O.length ≤ 1000000 := by rw [hO.out, List.length_take]; omega
    by_cases hlt : k < N
    · obtain ⟨x, hx⟩ : ∃ x, (sgs l)[k]? = some x := list_at (by rw [← hNN.out]; exact hlt)
      have hp := (sgs_at hx).1
      have hps := Lib.hid (pos_succ hx)
      have htk := Lib.hid (pls_take hx)
      have cc := fun w => hone k x hx w
      have hx4 := (sgs_ok l x (List.mem_of_getElem? hx)).len
      rw [hsz.out] at hp
      have hp' : ((pos l k : Nat) : Int) < s.size := by omega
      clear hx hone
      obtain ⟨p, hpp⟩ : ∃ p, p = pos l k := ⟨_, rfl⟩
      rw [← hpp] at hp hp' cc hps ⊢
      have hpc : plc l k x = ⟨p, x.bs.length, x.r, x.bad⟩ := by rw [hpp]; rfl
      rw [hpc] at htk
      clear hpc
      replace hpp := Lib.hid hpp
      generalize x.bs.length = n at *
      generalize x.r = r at *
      generalize x.bad = b at *
      have hpn : (p : Int) + n ≤ 9000000 := by omega
      have szo := G.size
      go_wp2_with fail
      refine (cc _).mono ?_
      rintro e w1 ⟨rfl, g1⟩
      have sz1 := g1.size
      have own1 := ((own.bl g1.bl).bl ((Bl.refl w1).alloc (.cells #[.int .i64 p, .int .i64 n, .int .i64 r, .bool b] 99))).bl ((Bl.refl _).alloc (.cells #[.int .i64 p, .int .i64 n, .int .i64 r, .bool b] 99))
      have x1 := (At.new w1 #[.int .i64 p, .int .i64 n, .int .i64 r, .bool b] 99).alloc (.cells #[.int .i64 p, .int .i64 n, .int .i64 r, .bool b] 99)
      have x2 := At.newAt (w := w1.alloc (.cells #[.int .i64 p, .int .i64 n, .int .i64 r, .bool b] 99)) (n := w1.heap.size + 1) (by simp) #[.int .i64 p, .int .i64 n, .int .i64 r, .bool b] 99
      have G1 := ((G.gr g1).alloc (.cells #[.int .i64 p, .int .i64 n, .int .i64 r, .bool b] 99)).alloc (.cells #[.int .i64 p, .int .i64 n, .int .i64 r, .bool b] 99)
      have ne1 : some w1.heap.size ≠ A.map (·.block) := by
        rcases own.lies with rfl | ⟨g', rfl, _, q2⟩
        · simp
        · simp; omega
      go_wp2_with (at_builtin; refine wp_app_sg rfl (.tmp 13) (.tmp 15) rfl A c O rfl w.heap.size own1 (w1.heap.size + 1) ⟨p, n, r, b⟩ 1 rfl x2 (by omega) (by simp; omega) ?_; intro A2 c2 w2 own2 ap2; have e1 := (x1.grown ap2.1 ne1).cell 1; have e0 := (x1.grown ap2.1 ne1).cell 0; have G2 := ap2.bl G1 own1.lies (Nat.le_refl _))
      go_roundw
      case rel =>
        refine ⟨k + 1, A2, c2, O ++ [⟨p, n, r, b⟩], by omega, by simp, ?_, own2, Lib.hid (by rw [htk.out, hO.out]), G2⟩
        rw [hps.out]; simp
      case measure => simp [intOf]; omega
    · obtain rfl : k = N := by omega
      rw [hpe.out]
      go_wp2
      go_ret
      have e : O = pls l := by rw [hO.out]; exact List.take_of_length_le (by rw [hpl.out]; omega)
      subst e
      rw [hpl.out]
      exact ⟨A, c, rfl, own, G⟩

end Go.Proofs.YteljpabhcmihoaaDoor
