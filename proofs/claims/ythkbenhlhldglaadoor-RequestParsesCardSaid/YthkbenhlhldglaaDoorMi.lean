/-
  What is proved: the document's Signs: a row of all signs of a text. No conditions but a bound. the document's Width, May, Clean, Cut, Like of texts. No conditions but bounds.
-/
import Derived.Test.YthkbenhlhldglaaDoorVf
import Derived.Test.YthkbenhlhldglaaDoorMh
import Derived.Deep.QuietTactic
import Derived.BigQuiet
import Derived.WalkMore
namespace Go.Proofs.YthkbenhlhldglaaDoor
open Go.RowKit Go.Sort Go.Shelf

theorem rone1 (s : ByteArray) (hs : s.size ≤ 1000000) (k : Nat) (x : Sg) (hx : (sgs s.data.toList)[k]? = some x) (w : World) : Calls Tryd.prog 90 #[.string s, .int .i64 (pos s.data.toList k : Nat)] w
    (Rt w (.agg #[.int .i64 (pos s.data.toList k : Nat), .int .i64 (x.bs.length : Nat), .int .i64 x.r, .bool x.bad])) := by
  obtain ⟨hp, h1, h2⟩ := sgs_at hx
  rw [size_list] at hp
  have h := one1 s (pos s.data.toList k) hp hs w
  rw [h2]
  rw [show x.r = ((dcL (s.data.toList.drop (pos s.data.toList k))).1 : Int) by rw [h1]; rfl, show x.bad = isBad (dcL (s.data.toList.drop (pos s.data.toList k))) by rw [h1]; rfl]
  exact h

set_option maxRecDepth 100000 in
set_option maxHeartbeats 4000000 in
theorem rsigns1 (s : ByteArray) (hs : s.size ≤ 1000000) (w : World) : Calls Tryd.prog 68 #[.string s] w
    (fun e w' => ∃ A c, e = .returned (.slice A (sgs s.data.toList).length c) ∧ OwS w' w.heap.size A c (pls s.data.toList) ∧ Bl w w') := by
  have hone := rone1 s hs
  have hN := sgs_len s.data.toList
  have hpl := pls_len s.data.toList
  have hsz := size_list s
  have hpe := pos_end s.data.toList
  rw [hsz] at hN hpe
  generalize hl : s.data.toList = l at *
  replace hl := Lib.hid hl
  obtain ⟨N, hNN⟩ : ∃ N, N = (sgs l).length := ⟨_, rfl⟩
  rw [← hNN] at hN hpl hpe ⊢
  replace hNN := Lib.hid hNN
  replace hsz := Lib.hid hsz
  replace hpl := Lib.hid hpl
  replace hpe := Lib.hid hpe
  go_enter Tryd.func68, Tryd.ntmps68
  go_wp2
  go_loopw [3, 4] (fun v i wr => ∃ (k : Nat) (A : Option Addr) (c : Nat) (O : List Pl), k ≤ N ∧ v = .slice A O.length c ∧ i = .int .i64 (pos l k : Nat) ∧ OwS wr w.heap.size A c O ∧ Hid (O = (pls l).take k) ∧ Bl w wr) (fun _ i _ => s.size - (intOf i).toNat)
  case atStart => exact ⟨0, none, 0, [], Nat.zero_le _, rfl, rfl, OwS.nil _ _, Lib.hid (by simp), Bl.refl _⟩
  case round =>
    obtain ⟨k, A, c, O, hk, rfl, rfl, own, hO, G⟩ := hrel
    have hOl : O.length ≤ 1000000 := by rw [hO.out, List.length_take]; omega
    by_cases hlt : k < N
    · obtain ⟨x, hx⟩ : ∃ x, (sgs l)[k]? = some x := list_at (by rw [← hNN.out]; exact hlt)
      have hp := (sgs_at hx).1
      have hps := Lib.hid (pos_succ hx)
      have htk := Lib.hid (pls_take hx)
      have cc := fun w => hone k x hx w
      have hx4 := (sgs_ok l x (List.mem_of_getElem? hx)).len
      rw [hsz.out] at hp
      have hp' : ((pos l k : Nat) : Int) < s.size := by omega
      clear hx hone
      obtain ⟨p, hpp⟩ : ∃ p, p = pos l k := ⟨_, rfl⟩
      rw [← hpp] at hp hp' cc hps ⊢
      have hpc : plc l k x = ⟨p, x.bs.length, x.r, x.bad⟩ := by rw [hpp]; rfl
      rw [hpc] at htk
      clear hpc
      replace hpp := Lib.hid hpp
      generalize x.bs.length = n at *
      generalize x.r = r at *
      generalize x.bad = b at *
      have hpn : (p : Int) + n ≤ 9000000 := by omega
      have szo := G.size
      go_wp2_with fail
      refine (cc _).mono ?_
      rintro e w1 ⟨rfl, g1⟩
      have sz1 := g1.size
      have own1 := ((own.bl g1.bl).bl ((Bl.refl w1).alloc (.cells #[.int .i64 p, .int .i64 n, .int .i64 r, .bool b] 130))).bl ((Bl.refl _).alloc (.cells #[.int .i64 p, .int .i64 n, .int .i64 r, .bool b] 130))
      have x1 := (At.new w1 #[.int .i64 p, .int .i64 n, .int .i64 r, .bool b] 130).alloc (.cells #[.int .i64 p, .int .i64 n, .int .i64 r, .bool b] 130)
      have x2 := At.newAt (w := w1.alloc (.cells #[.int .i64 p, .int .i64 n, .int .i64 r, .bool b] 130)) (n := w1.heap.size + 1) (by simp) #[.int .i64 p, .int .i64 n, .int .i64 r, .bool b] 130
      have G1 := ((G.gr g1).alloc (.cells #[.int .i64 p, .int .i64 n, .int .i64 r, .bool b] 130)).alloc (.cells #[.int .i64 p, .int .i64 n, .int .i64 r, .bool b] 130)
      have ne1 : some w1.heap.size ≠ A.map (·.block) := by
        rcases own.lies with rfl | ⟨g', rfl, _, q2⟩
        · simp
        · simp; omega
      go_wp2_with (at_builtin; refine wp_app_sg rfl (.tmp 13) (.tmp 15) rfl A c O rfl w.heap.size own1 (w1.heap.size + 1) ⟨p, n, r, b⟩ 1 rfl x2 (by omega) (by simp; omega) ?_; intro A2 c2 w2 own2 ap2; have e1 := (x1.grown ap2.1 ne1).cell 1; have e0 := (x1.grown ap2.1 ne1).cell 0; have G2 := ap2.bl G1 own1.lies (Nat.le_refl _))
      go_roundw
      case rel =>
        refine ⟨k + 1, A2, c2, O ++ [⟨p, n, r, b⟩], by omega, by simp, ?_, own2, Lib.hid (by rw [htk.out, hO.out]), G2⟩
        rw [hps.out]; simp
      case measure => simp [intOf]; omega
    · obtain rfl : k = N := by omega
      rw [hpe.out]
      go_wp2
      go_ret
      have e : O = pls l := by rw [hO.out]; exact List.take_of_length_le (by rw [hpl.out]; omega)
      subst e
      rw [hpl.out]
      exact ⟨A, c, rfl, own, G⟩

end Go.Proofs.YthkbenhlhldglaaDoor
namespace Go.Proofs.YthkbenhlhldglaaDoor
open Go.RowKit Go.Sort Go.Shelf

theorem row_open {w : World} {A : Option Addr} {l : List UInt8} (h : Ss w A (pls l)) {k : Nat} (hk : k < (sgs l).length) : ∃ (b off : Nat) (x : Sg), A = some ⟨b, off, none⟩ ∧ (sgs l)[k]? = some x ∧ w.cell? ⟨b, off + k * 4, none⟩ = some (.int .i64 (pos l k : Nat)) ∧ w.cell? ⟨b, off + k * 4 + 1, none⟩ = some (.int .i64 (x.bs.length : Nat)) ∧
    w.cell? ⟨b, off + k * 4 + 2, none⟩ = some (.int .i64 x.r) ∧ w.cell? ⟨b, off + k * 4 + 3, none⟩ = some (.bool x.bad) := by
  obtain ⟨b, off, rfl, hr⟩ := h.opened (by rw [pls_len]; omega)
  obtain ⟨x, hx⟩ : ∃ x, (sgs l)[k]? = some x := list_at hk
  obtain ⟨e1, e2, e3, e4⟩ := hr k _ (pls_at hx)
  exact ⟨b, off, x, rfl, hx, e1, e2, e3, e4⟩
theorem take_snoc1 {α : Type} {L : List α} {k : Nat} {x : α} (h : L[k]? = some x) : L.take (k + 1) = L.take k ++ [x] := by rw [List.take_add_one, h]; rfl

theorem okS_of (x : Sg) : okS x = (!(oddB x.r) && !x.bad) := rfl
theorem all_snoc {X : List Sg} {k : Nat} {x : Sg} (h : X[k]? = some x) (ha : (X.take k).all okS = true) : (X.take (k + 1)).all okS = okS x := by
  rw [take_snoc1 h, List.all_append, ha]; simp
theorem all_no {X : List Sg} {k : Nat} {x : Sg} (h : X[k]? = some x) (hx : okS x = false) : mayX X = false := by
  unfold mayX
  have : X.all okS = false := by
    rw [Bool.eq_false_iff]
    intro h1
    rw [List.all_eq_true] at h1
    rw [h1 x (List.mem_of_getElem? h)] at hx
    cases hx
  rw [this, Bool.and_false]

set_option maxRecDepth 100000 in
set_option maxHeartbeats 4000000 in
theorem rmay1 (s : ByteArray) (hs : s.size ≤ 1000000) (w : World) : Calls Tryd.prog 80 #[.string s] w (Bt w (.bool (mayX (sgs s.data.toList)))) := by
  have hN := sgs_len s.data.toList
  rw [size_list] at hN
  have cs := fun w => rsigns1 s hs w
  generalize s.data.toList = l at *
  obtain ⟨R, hR⟩ : ∃ R, R = mayX (sgs l) := ⟨_, rfl⟩
  rw [← hR]
  replace hR := Lib.hid hR
  go_enter Tryd.func80, Tryd.ntmps80
  go_wp2_with fail
  refine (cs _).mono ?_
  rintro e w1 ⟨A, c, rfl, own, G⟩
  have hrow := own.ss
  clear own cs
  obtain ⟨N, hNN⟩ : ∃ N, N = (sgs l).length := ⟨_, rfl⟩
  rw [← hNN] at hN ⊢
  replace hNN := Lib.hid hNN
  go_wp2
  go_loop [4] (fun i => ∃ k : Nat, k ≤ N ∧ i = .int .i64 k ∧ ((sgs l).take k).all okS = true) (fun i => N - (intOf i).toNat)
  case atStart => exact ⟨0, Nat.zero_le _, rfl, rfl⟩
  case round =>
    obtain ⟨k, hk, rfl, hall⟩ := hrel
    by_cases hlt : k < N
    · obtain ⟨b, off, x, rfl, hx, e1, e2, e3, e4⟩ := row_open hrow (k := k) (by rw [← hNN.out]; exact hlt)
      have hok := okS_of x
      have hsn := all_snoc hx hall
      have hno := fun h => all_no hx h
      have co := fun w => rodd1 x.r w
      rw [hok] at hsn hno
      clear hx hok
      generalize oddB x.r = od at *
      generalize x.bad = bad at *
      replace hall := Lib.hid hall
      replace hsn := Lib.hid hsn
      replace hno := Lib.hid hno
      cases od
      · cases bad
        · go_wp2_with (go_at_call 69; refine (co _).mono ?_; rintro e w2 ⟨rfl, rfl⟩)
          go_round
          case rel => exact ⟨k + 1, by omega, by simp, by rw [hsn.out]; rfl⟩
          case measure => simp [intOf]; omega
        · have hf := Lib.hid (hno.out rfl)
          go_wp2_with (go_at_call 69; refine (co _).mono ?_; rintro e w2 ⟨rfl, rfl⟩)
          go_ret
          exact ⟨by rw [hR.out, hf.out]; rfl, G⟩
      · have hf := Lib.hid (hno.out rfl)
        go_wp2_with (go_at_call 69; refine (co _).mono ?_; rintro e w2 ⟨rfl, rfl⟩)
        go_ret
        exact ⟨by rw [hR.out, hf.out]; rfl, G⟩
    · obtain rfl : k = N := by omega
      have hR2 : R = decide ((k : Int) ≤ 64) := by
        rw [hR.out]
        unfold mayX
        rw [← hNN.out]
        rw [hNN.out, List.take_length] at hall
        rw [hall, Bool.and_true]
        rw [Bool.eq_iff_iff]; simp; omega
      replace hR2 := Lib.hid hR2
      clear hall
      go_wp2
      go_ret
      exact ⟨by rw [hR2.out]; rfl, G⟩

theorem ext_sign {l : List UInt8} {k : Nat} {x : Sg} (h : (sgs l)[k]? = some x) : (l.take (pos l k + x.bs.length)).drop (pos l k) = x.bs := by
  rw [← pos_succ h, ← pos_take, take_snoc1 h, glue_app]
  unfold pos
  rw [List.drop_left]
  simp [glue]
theorem flat_len (X : List Sg) (h : ∀ x ∈ X, x.ok) : (X.flatMap piece).length ≤ 4 * X.length := by
  induction X with
  | nil => simp
  | cons y Y ih =>
    have h1 := ih (fun x hx => h x (by simp [hx]))
    have h2 := piece_len (h y (by simp))
    rw [List.flatMap_cons, List.length_append, List.length_cons]
    omega

set_option maxRecDepth 100000 in
set_option maxHeartbeats 4000000 in
theorem rclean1 (s : ByteArray) (hs : s.size ≤ 1000000) (w : World) : Calls Tryd.prog 46 #[.string s] w (Bt w (.string (bs (clX (sgs s.data.toList))))) := by
  have hN := sgs_len s.data.toList
  have hsz := size_list s
  rw [hsz] at hN
  have cs := fun w => rsigns1 s hs w
  have hR := Lib.hid (clX_piece (sgs_ok s.data.toList))
  have hfl := fun k => flat_len ((sgs s.data.toList).take k) (fun x hx => sgs_ok s.data.toList x (List.mem_of_mem_take hx))
  have hexb := fun (a b : Nat) => list_bs (s.extract a b)
  have hexl := fun (a b : Nat) => extract_list s a b
  generalize hl : s.data.toList = l at *
  obtain ⟨R, hRR⟩ : ∃ R, R = bs (clX (sgs l)) := ⟨_, rfl⟩
  rw [← hRR]
  replace hRR := Lib.hid hRR
  replace hl := Lib.hid hl
  replace hsz := Lib.hid hsz
  replace hfl := Lib.hid hfl
  replace hexb := Lib.hid hexb
  replace hexl := Lib.hid hexl
  have mixed : Tryd.prog.follows .mixedOrders = true := by kernel_rfl
  go_enter Tryd.func46, Tryd.ntmps46
  go_wp2_with fail
  refine (cs _).mono ?_
  rintro e w1 ⟨A, c, rfl, own, G⟩
  have hrow := own.ss
  clear own cs
  obtain ⟨N, hNN⟩ : ∃ N, N = (sgs l).length := ⟨_, rfl⟩
  rw [← hNN] at hN ⊢
  replace hNN := Lib.hid hNN
  go_wp2
  go_loopw [4, 5] (fun o i wr => ∃ (k : Nat) (T : ByteArray), k ≤ N ∧ k ≤ 64 ∧ o = .string T ∧ i = .int .i64 k ∧ Hid (T = bs (((sgs l).take k).flatMap piece)) ∧ Bl w1 wr) (fun _ i _ => N - (intOf i).toNat)
  case atStart => exact ⟨0, _, Nat.zero_le _, by omega, rfl, rfl, Lib.hid rfl, Bl.refl _⟩
  case round =>
    obtain ⟨k, T, hk, hk64, rfl, rfl, hT, Gk⟩ := hrel
    have hTs : T.size ≤ 1000000 := by
      rw [hT.out, bs_size]
      have := hfl.out k
      rw [List.length_take] at this
      omega
    by_cases hlt : k < N
    · by_cases h64 : k < 64
      · obtain ⟨b, off, x, rfl, hx, e1, e2, e3, e4⟩ := row_open (hrow.bl Gk) (k := k) (by rw [← hNN.out]; exact hlt)
        have co := fun w => rodd1 x.r w
        have hsn : ((sgs l).take (k + 1)).flatMap piece = ((sgs l).take k).flatMap piece ++ piece x := by rw [take_snoc1 hx, List.flatMap_append]; simp
        have hpi : piece x = if (oddB x.r || x.bad) = true then [63] else x.bs := rfl
        have hex := ext_sign hx
        have hpl := pos_le l (k + 1)
        rw [pos_succ hx] at hpl
        have hsz2 := hsz.out
        have hple : ((pos l k : Nat) : Int) + ((x.bs.length : Nat) : Int) ≤ s.size := by omega
        have hbx : s.extract (pos l k) (pos l k + x.bs.length) = bs x.bs := by
          rw [← hexb.out, hexl.out, hex]
        rw [hpi] at hsn
        clear hpi hex hpl hx hsz2
        generalize pos l k = p at *
        generalize x.bs = C at *
        generalize C.length = m at *
        generalize oddB x.r = od at *
        generalize x.bad = bad at *
        generalize x.r = r at *
        replace hsn := Lib.hid hsn
        replace hbx := Lib.hid hbx
        have q1 : (k : Int) < 64 := by omega
        have q2 : (k : Int) < N := by omega
        cases od
        · cases bad
          · have w1' : IntKind.i64.wrap ((p : Int) + (m : Int)) = (p : Int) + (m : Int) := IntWalk.i64_in _ (by omega)
            have w2' : ((p : Int) + (m : Int)).toNat = p + m := by omega
            have w3' : (0 : Int) ≤ (p : Int) + (m : Int) := by omega
            have w4' : (p : Int) ≤ (p : Int) + (m : Int) := by omega
            go_wp2_with (go_at_call 69; refine (co _).mono ?_; rintro e w2 ⟨rfl, rfl⟩)
            go_quiet (fail)
            go_wp2
            go_roundw
            case rel => exact ⟨k + 1, _, by omega, by omega, rfl, by simp, Lib.hid (by rw [hsn.out, hT.out, hbx.out, bs_app]; rfl), Gk.drewN _⟩
            case measure => simp [intOf]; omega
          · go_wp2_with (go_at_call 69; refine (co _).mono ?_; rintro e w2 ⟨rfl, rfl⟩)
            go_roundw
            case rel => exact ⟨k + 1, _, by omega, by omega, rfl, by simp, Lib.hid (by rw [hsn.out, hT.out, show (⟨#[63]⟩ : ByteArray) = bs [63] from rfl, bs_app]; rfl), Gk⟩
            case measure => simp [intOf]; omega
        · go_wp2_with (go_at_call 69; refine (co _).mono ?_; rintro e w2 ⟨rfl, rfl⟩)
          go_roundw
          case rel => exact ⟨k + 1, _, by omega, by omega, rfl, by simp, Lib.hid (by rw [hsn.out, hT.out, show (⟨#[63]⟩ : ByteArray) = bs [63] from rfl, bs_app]; rfl), Gk⟩
          case measure => simp [intOf]; omega
      · obtain rfl : k = 64 := by omega
        have q2 : (64 : Int) < N := by omega
        have e : T = R := by rw [hT.out, hRR.out, hR.out]
        subst e
        clear hT hRR
        go_wp2
        go_ret
        exact ⟨rfl, G.trans Gk⟩
    · obtain rfl : k = N := by omega
      have e : T = R := by
        rw [hT.out, hRR.out, hR.out]
        rw [hNN.out, List.take_length, List.take_of_length_le (by rw [← hNN.out]; exact hk64)]
      subst e
      clear hT hRR
      have q2 : decide ((k : Int) < k) = false := by simp
      go_wp2
      go_ret
      exact ⟨rfl, G.trans Gk⟩

end Go.Proofs.YthkbenhlhldglaaDoor
