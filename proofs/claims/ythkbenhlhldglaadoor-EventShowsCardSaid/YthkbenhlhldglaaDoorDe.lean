/-
  What is proved: what encode and May of package event hand back of any event. One condition: the table of shapes reads as its initialiser lays it.
-/
import Derived.Test.YthkbenhlhldglaaDoorDd
import Derived.Test.YthkbenhlhldglaaDoorMb
namespace Go.Proofs.YthkbenhlhldglaaDoor
open Go.RowKit Go.Sort

/-- An event's bytes, if it may be. -/
def encB (e : Ev) : List Int × Bool := if okE e then (encM (msE e), true) else ([], false)
def EncEQ (w : World) (e : Ev) (x : Ending) (w' : World) : Prop := ∃ A c, x = .returned (.tuple #[.slice A (encB e).1.length c, .bool (encB e).2]) ∧ Sv w' (.slice A (encB e).1.length c) (encB e).1 ∧ Bl w w'
theorem EncEQ.none {w w' : World} {e : Ev} (h : ¬ okE e) (g : Bl w w') : EncEQ w e (.returned (.tuple #[.slice none 0 0, .bool false])) w' := by
  unfold EncEQ encB
  rw [if_neg h]
  exact ⟨Option.none, 0, rfl, Sv.nil _, g⟩
theorem cells4E {w : World} {b : Nat} {t : TypeId} {z0 z1 z2 z3 : Value} (h : At w b #[z0, z1, z2, z3] t) : w.cell? ⟨b, 0, none⟩ = some z0 ∧ w.cell? ⟨b, 1, none⟩ = some z1 ∧ w.cell? ⟨b, 2, none⟩ = some z2 ∧ w.cell? ⟨b, 3, none⟩ = some z3 :=
  ⟨h.cell 0, h.cell 1, h.cell 2, h.cell 3⟩
set_option maxRecDepth 100000 in
set_option maxHeartbeats 2000000 in
theorem encE_no (e : Ev) (w : World) (h : ¬ (0 ≤ e.k ∧ e.k ≤ 5)) : Calls Tryd.prog 60 #[vE e] w (EncEQ w e) := by
  have hx := fun V (g : Bl w V) => EncEQ.none (e := e) (fun h' => h h'.k) g
  obtain ⟨k, id, a, b⟩ := e
  have c1 := fun V => findE0 k h V
  unfold vE
  dsimp only at *
  go_enter Tryd.func60, Tryd.ntmps60
  go_wp2_with fail
  refine (c1 _).mono ?_
  rintro e w1 ⟨rfl, g1⟩
  go_wp2
  go_ret2
  exact hx _ ((((Bl.refl w).alloc _).gr g1).alloc _)
set_option maxRecDepth 100000 in
set_option maxHeartbeats 2000000 in
theorem encE_tell (e : Ev) (n : Nat) (hk : e.k = n) (h : n < 6) (w : World) (hS : Sh w) (ht : tellB e = false) : Calls Tryd.prog 60 #[vE e] w (EncEQ w e) := by
  have hx := fun V (g : Bl w V) => EncEQ.none (e := e) (fun h' => by have := (ok_tell h').1; rw [ht] at this; cases this) g
  have ct := fun V => mayTell1 e V
  rw [ht] at ct
  have c1 := fun V g => findE1 n h V (hS.bl g)
  generalize enS n = N at *
  generalize efS n = F at *
  obtain ⟨k, id, a, b⟩ := e
  unfold vE at *
  dsimp only at *
  rw [← hk] at c1
  clear hk hS ht
  go_enter Tryd.func60, Tryd.ntmps60
  go_wp2_with fail
  refine (c1 _ ((Bl.refl w).alloc _)).mono ?_
  rintro e w1 ⟨rfl, g1⟩
  have X := ((At.new w #[.int .i64 k, .int .i64 id, .int .i64 a, .int .i64 b] 65).gr g1).alloc (.cells #[.string N, .string F] 119)
  obtain ⟨k0, k1, k2, k3⟩ := cells4E X
  go_wp2_with fail
  refine (ct _).mono ?_
  rintro e w2 ⟨rfl, g2⟩
  go_wp2
  go_ret2
  exact hx _ (((((Bl.refl w).alloc _).gr g1).alloc _).gr g2)
theorem own_snocE {w : World} {B : Nat} {A : Option Addr} {c : Nat} {xs : List Value} {v : Value} (h : w.ownsRow B 20 1 (.slice A (xs.length + 1) c) (xs.length + 1) (xs ++ [v])) : OwY w B A c (xs ++ [v]) := by
  unfold OwY; rw [List.length_append]; exact h
theorem take_snocE {α : Type} {l : List α} {k : Nat} {x : α} (h : l[k]? = some x) : l.take (k + 1) = l.take k ++ [x] := by
  rw [List.take_add_one, h]; rfl
set_option maxRecDepth 100000 in
set_option maxHeartbeats 2000000 in
theorem encE_main (k id a b : Int) (n : Nat) (N F : ByteArray) (w : World) (R : List Int) (T : List Av) (P : List Int × Int) (Z : Ending → World → Prop)
    (hkb : 0 ≤ k ∧ k ≤ 5) (hFn : F.size = n) (hn2 : n ≤ 2) (hR : R = ([a, b] : List Int).drop n) (hT : T = ([vI a, vI b] : List Av).take n)
    (c1 : ∀ V, Bl w V → Calls Tryd.prog 62 #[.int .i64 k] V (Rt V (.tuple #[.agg #[.string N, .string F], .bool true])))
    (ct : ∀ V, Calls Tryd.prog 84 #[.agg #[.int .i64 k, .int .i64 id, .int .i64 a, .int .i64 b]] V (Rt V (.bool true)))
    (cs : ∀ V, Calls Tryd.prog 64 #[.agg #[.int .i64 k, .int .i64 id, .int .i64 a, .int .i64 b], .string F] V (SplitQ V a b n))
    (cp : ∀ A c xs V, Yv V A xs → AllA V xs T → Calls Tryd.prog 54 #[.string F, .slice A xs.length c] V (PackQ V P))
    (cw1 : ∀ V A c, okM ⟨128 + k, id, P.1⟩ → Sv V (.slice A P.1.length c) P.1 → Calls Tryd.prog 85 #[.agg #[.int .i64 (128 + k), .int .i64 id, .slice A P.1.length c]] V (fun x V' => ∃ A' c', x = .returned (.tuple #[.slice A' (encM ⟨128 + k, id, P.1⟩).length c', .int .i64 0]) ∧ Sv V' (.slice A' (encM ⟨128 + k, id, P.1⟩).length c') (encM ⟨128 + k, id, P.1⟩) ∧ Bl V V'))
    (cw0 : ∀ V A c, ¬ okM ⟨128 + k, id, P.1⟩ → Sv V (.slice A P.1.length c) P.1 → Calls Tryd.prog 85 #[.agg #[.int .i64 (128 + k), .int .i64 id, .slice A P.1.length c]] V (fun x V' => x = .returned (.tuple #[.slice none 0 0, .int .i64 1]) ∧ Bl V V'))
    (z0 : ∀ V, Bl w V → (∃ x ∈ R, x ≠ 0) → Z (.returned (.tuple #[.slice none 0 0, .bool false])) V)
    (z1 : ∀ V, Bl w V → (∀ x ∈ R, x = 0) → P.2 ≠ 0 → Z (.returned (.tuple #[.slice none 0 0, .bool false])) V)
    (z2 : ∀ V, Bl w V → (∀ x ∈ R, x = 0) → P.2 = 0 → ¬ okM ⟨128 + k, id, P.1⟩ → Z (.returned (.tuple #[.slice none 0 0, .bool false])) V)
    (z3 : ∀ V, Bl w V → (∀ x ∈ R, x = 0) → P.2 = 0 → okM ⟨128 + k, id, P.1⟩ → ∀ A c, Sv V (.slice A (encM ⟨128 + k, id, P.1⟩).length c) (encM ⟨128 + k, id, P.1⟩) → Z (.returned (.tuple #[.slice A (encM ⟨128 + k, id, P.1⟩).length c, .bool true])) V) :
    Calls Tryd.prog 60 #[.agg #[.int .i64 k, .int .i64 id, .int .i64 a, .int .i64 b]] w Z := by
  replace hR := Lib.hid hR
  replace hT := Lib.hid hT
  go_enter Tryd.func60, Tryd.ntmps60
  go_wp2_with fail
  refine (c1 _ ((Bl.refl w).alloc _)).mono ?_
  rintro e w1 ⟨rfl, g1⟩
  have X := ((At.new w #[.int .i64 k, .int .i64 id, .int .i64 a, .int .i64 b] 65).gr g1).alloc (.cells #[.string N, .string F] 119)
  have Y := At.new w1 #[.string N, .string F] 119
  have G1 := (((Bl.refl w).alloc (.cells #[.int .i64 k, .int .i64 id, .int .i64 a, .int .i64 b] 65)).gr g1).alloc (.cells #[.string N, .string F] 119)
  obtain ⟨k0, k1, k2, k3⟩ := cells4E X
  clear c1
  go_wp2_with fail
  refine (ct _).mono ?_
  rintro e w2 ⟨rfl, g2⟩
  have X2 := X.gr g2
  have Y2 := Y.gr g2
  have G2 := G1.gr g2
  clear k0 k1 k2 k3 X Y G1 g1 g2 ct
  obtain ⟨k0, k1, k2, k3⟩ := cells4E X2
  have y1 : w2.cell? ⟨w1.heap.size, 1, none⟩ = some (.string F) := Y2.cell 1
  go_wp2_with fail
  refine (cs _).mono ?_
  rintro e w3 ⟨g, A3, c3, rfl, hA3, B3, g3⟩
  have X3 := X2.gr g3
  have Y3 := Y2.gr g3
  have G3 := G2.gr g3
  clear k0 k1 k2 k3 y1 X2 Y2 G2 g3 cs
  replace hA3 := Lib.hid hA3
  obtain ⟨m, hm⟩ : ∃ m, m = 2 - n := ⟨_, rfl⟩
  have hm2 : m ≤ 2 := by omega
  rw [← hm]
  replace hm := Lib.hid hm
  go_wp2
  go_loopw [38] (fun i wr => ∃ j : Nat, j ≤ m ∧ i = .int .i64 ((j : Nat) : Int) ∧ wr = w3 ∧ Hid (∀ x ∈ R.take j, x = 0)) (fun i _ => m - (intOf i).toNat)
  case atStart => exact ⟨0, Nat.zero_le _, rfl, rfl, Lib.hid (by intro x hx; simp at hx)⟩
  case round =>
    obtain ⟨j, hj, rfl, rfl, hz⟩ := hrel
    by_cases hlt : j < m
    · have q1 : (j : Int) < m := by omega
      have hA := hA3.out (by have := hm.out; omega)
      subst hA
      obtain ⟨x, hx, hc⟩ : ∃ x, R[j]? = some x ∧ wr.cell? ⟨g, n + j, none⟩ = some (.int .i64 x) := by
        have hm' := hm.out
        rw [hR.out]
        have b0 := B3.cell 0
        have b1 := B3.cell 1
        have h4 : (n = 0 ∧ j = 0) ∨ (n = 0 ∧ j = 1) ∨ (n = 1 ∧ j = 0) := by omega
        rcases h4 with ⟨rfl, rfl⟩ | ⟨rfl, rfl⟩ | ⟨rfl, rfl⟩
        · exact ⟨a, rfl, b0⟩
        · exact ⟨b, rfl, b1⟩
        · exact ⟨b, rfl, b1⟩
      have htk : R.take (j + 1) = R.take j ++ [x] := take_snocE hx
      by_cases hx0 : x = 0
      · subst hx0
        have hn1 : ∀ x ∈ R.take (j + 1), x = 0 := by
          rw [htk]
          intro y hy
          rcases List.mem_append.1 hy with hy | hy
          · exact hz.out y hy
          · simpa using hy
        replace hn1 := Lib.hid hn1
        clear htk hx
        go_wp2
        go_roundw
        case rel => exact ⟨j + 1, by omega, by go_num, by simp, hn1⟩
        case measure => simp [intOf]; omega
      · have hx1 : (x == 0) = false := by simpa using hx0
        have ex := Lib.hid (z0 wr G3 ⟨x, List.mem_of_getElem? hx, hx0⟩)
        clear htk hx hx0
        go_wp2
        exact ex.out
    · have q1 : ¬ (j : Int) < m := by omega
      have hR0 : ∀ x ∈ R, x = 0 := by
        intro x hx
        refine hz.out x ?_
        rw [List.take_of_length_le]
        · exact hx
        · rw [hR.out, List.length_drop]
          have := hm.out
          simp; omega
      replace hR0 := Lib.hid hR0
      clear hz hA3
      obtain ⟨V0, rfl⟩ : ∃ V0, V0 = wr := ⟨_, rfl⟩
      go_wp2
      go_loopw [10, 47] (fun o i wr => ∃ (q : Nat) (A' : Option Addr) (c' : Nat) (xs : List Value), q ≤ n ∧ o = .slice A' xs.length c' ∧ i = .int .i64 ((q : Nat) : Int) ∧ OwY wr V0.heap.size A' c' xs ∧ Hid (∀ V, AllA V xs (T.take q)) ∧ Bl V0 wr ∧ Hid (xs.length = q)) (fun _ i _ => n - (intOf i).toNat)
      case atStart => exact ⟨0, none, 0, [], Nat.zero_le _, rfl, rfl, OwY.nil _ _, Lib.hid (fun V => AllA.nil), Bl.refl _, Lib.hid rfl⟩
      case round =>
        obtain ⟨q, Al, cl, xs, hq, rfl, rfl, own, hall, G, hxl⟩ := hrel
        have hxs : xs.length ≤ 2 := by have := hxl.out; omega
        by_cases hlt2 : q < n
        · have q2 : (q : Int) < n := by omega
          obtain ⟨x, hx, hc⟩ : ∃ x, T[q]? = some (vI x) ∧ wr.cell? ⟨g, q, none⟩ = some (.int .i64 x) := by
            rw [hT.out]
            have b0 := (B3.bl G).cell 0
            have b1 := (B3.bl G).cell 1
            have h4 : (n = 1 ∧ q = 0) ∨ (n = 2 ∧ q = 0) ∨ (n = 2 ∧ q = 1) := by omega
            rcases h4 with ⟨rfl, rfl⟩ | ⟨rfl, rfl⟩ | ⟨rfl, rfl⟩
            · exact ⟨a, rfl, b0⟩
            · exact ⟨a, rfl, b0⟩
            · exact ⟨b, rfl, b1⟩
          have hA1 : ∀ V, AllA V (xs ++ [.iface 3 (.int .i64 x)]) (T.take (q + 1)) := fun V => by
            rw [take_snocE hx]
            exact (hall.out V).snoc (.inl ⟨rfl, rfl⟩)
          replace hA1 := Lib.hid hA1
          have own1 : OwY (wr.alloc (.cells #[.iface 3 (.int .i64 x)] 20)) V0.heap.size Al cl xs := own.bl ((Bl.refl wr).alloc _)
          clear hx
          go_wp2_with (at_builtin; refine wp_app_gen Tryd.underlying100 infoAny rfl (by decide) (by decide) rfl (.tmp 51) (.tmp 54) rfl Al xs.length cl xs rfl V0.heap.size own1 (some ⟨wr.heap.size, 0, none⟩) 1 1 [.iface 3 (.int .i64 x)] rfl (by simp) rfl (News.at 1 (At.new wr _ _)) (fun u hu => by rw [List.mem_singleton] at hu; subst hu; rfl) (by omega) (by have := G.size; simp; omega) ?_; intro A2 c2 w4 own2 by2 _; have G4 : Bl V0 w4 := app_bl by2 (G.alloc _) (ow_lies own1) (Nat.le_refl _))
          go_roundw
          case rel => exact ⟨q + 1, A2, c2, xs ++ [.iface 3 (.int .i64 x)], by omega, by simp, by go_num, own_snocE own2, hA1, G4, by have := hxl.out; exact Lib.hid (by simp; omega)⟩
          case measure => simp [intOf]; omega
        · have q2 : ¬ (q : Int) < n := by omega
          obtain rfl : q = n := by omega
          have hTq : T.take q = T := List.take_of_length_le (by rw [hT.out, List.length_take]; omega)
          rw [hTq] at hall
          have cpp := fun V g => cp Al cl xs V ((own.bl g).yv) (hall.out V)
          have y1 : wr.cell? ⟨w1.heap.size, 1, none⟩ = some (.string F) := (Y3.bl G).cell 1
          have GG : Bl w wr := G3.trans G
          have X4 := X3.bl G
          obtain ⟨PL, PE⟩ := P
          unfold PackQ at cpp
          dsimp only at *
          obtain ⟨nx, hnx⟩ : ∃ nx, nx = xs.length := ⟨_, rfl⟩
          rw [← hnx] at cpp ⊢
          replace hnx := Lib.hid hnx
          clear hall hTq cp hxs hxl
          go_wp2_with fail
          refine (cpp _ (Bl.refl _)).mono ?_
          rintro e w5 ⟨A5, c5, rfl, s5, g5⟩
          have G5 := GG.trans g5
          have X5 := X4.bl g5
          clear cpp y1
          by_cases hPE : PE = 0
          · subst hPE
            obtain ⟨k0, k1, k2, k3⟩ := cells4E X5
            by_cases hm : okM ⟨128 + k, id, PL⟩
            · have cw := fun V (g : Bl w5 V) => cw1 V A5 c5 hm (s5.bl g)
              have ex := Lib.hid (fun V (g : Bl w5 V) => z3 V (G5.trans g) hR0.out rfl hm)
              replace hm := Lib.hid hm
              generalize encM ⟨128 + k, id, PL⟩ = E at *
              clear cw1 cw0 z0 z1 z2 z3 s5
              generalize PL.length = np at *
              go_wp2_with fail
              refine (cw _ (Bl.refl _)).mono ?_
              rintro e w6 ⟨A6, c6, rfl, s6, g6⟩
              have ex6 := Lib.hid (ex.out w6 g6 A6 c6 s6)
              clear s6
              go_wp2
              exact ex6.out
            · have cw := fun V (g : Bl w5 V) => cw0 V A5 c5 hm (s5.bl g)
              have ex := Lib.hid (fun V (g : Bl w5 V) => z2 V (G5.trans g) hR0.out rfl hm)
              replace hm := Lib.hid hm
              clear cw1 cw0 z0 z1 z2 z3 s5
              generalize PL.length = np at *
              go_wp2_with fail
              refine (cw _ (Bl.refl _)).mono ?_
              rintro e w6 ⟨rfl, g6⟩
              have ex6 := Lib.hid (ex.out w6 g6)
              go_wp2
              exact ex6.out
          · have ex := Lib.hid (z1 w5 G5 hR0.out hPE)
            have hne : (PE == 0) = false := by simpa using hPE
            clear cw1 cw0 z0 z1 z2 z3 s5
            generalize PL.length = np at *
            go_wp2
            exact ex.out

theorem encE1 (e : Ev) (w : World) (hS : Sh w) : Calls Tryd.prog 60 #[vE e] w (EncEQ w e) := by
  by_cases hk : 0 ≤ e.k ∧ e.k ≤ 5
  case neg => exact encE_no e w hk
  obtain ⟨n, hn⟩ : ∃ n : Nat, e.k = n := ⟨e.k.toNat, by omega⟩
  have h6 : n < 6 := by omega
  have hkn : e.k.toNat = n := by omega
  cases ht : tellB e with
  | false => exact encE_tell e n hn h6 w hS ht
  | true =>
    have no := fun (P : Prop) (hP : P → False) => hP
    have hl2 := (efL_ok h6).2.2
    refine encE_main e.k e.id e.a e.b (efL n).length (enS n) (efS n) w (restE e) (argsE e) (pkR (efL n) (argsE e)) (EncEQ w e) hk rfl hl2 (by unfold restE; rw [hkn]) (by unfold argsE; rw [hkn])
      (fun V g => by rw [hn]; exact findE1 n h6 V (hS.bl g)) (fun V => by have := mayTell1 e V; rw [ht] at this; exact this) (fun V => split1 e (efS n) _ rfl hl2 V)
      (fun A c xs V hY hA => apack1 (efS n) A c xs (argsE e) V (by show (efL n).length ≤ 1000; omega) (by unfold argsE; rw [List.length_take]; simp; omega) hY hA)
      (fun V A c hm hs => ?_) (fun V A c hm hs => ?_) (fun V g hx => ?_) (fun V g h0 hP => ?_) (fun V g h0 hP hm => ?_) (fun V g h0 hP hm A c hs => ?_)
    · obtain ⟨A', c', h0, h1, h2, h3, h4⟩ := hs
      injection h0 with e1 e2 e3
      subst e1 e3
      exact fwrite1 A c ⟨128 + e.k, e.id, _⟩ V hm h4 h1
    · exact (fwrite0 A c ⟨128 + e.k, e.id, _⟩ V hm).mono fun x V' h => h
    · refine EncEQ.none (fun h => ?_) g
      obtain ⟨x, hx, hne⟩ := hx
      exact hne ((ok_tell h).2 x hx)
    · refine EncEQ.none (fun h => ?_) g
      have := pkR_ev h
      rw [hkn] at this
      rw [this] at hP
      exact hP rfl
    · refine EncEQ.none (fun h => ?_) g
      have := pkR_ev h
      rw [hkn] at this
      rw [this] at hm
      exact hm (okM_ev h)
    · have hok : okE e := by
        by_cases h : okE e
        · exact h
        · exfalso
          rcases not_ok hk ht h0 h with h' | ⟨h', h''⟩
          · rw [hkn] at h'
            rw [h'] at hP
            cases hP
          · rw [hkn] at h'
            rw [h'] at hm
            exact h'' hm
      have e1 := pkR_ev hok
      rw [hkn] at e1
      rw [e1] at hs ⊢
      unfold EncEQ encB
      rw [if_pos hok]
      exact ⟨A, c, rfl, hs, g⟩
set_option maxRecDepth 100000 in
set_option maxHeartbeats 2000000 in
theorem evMay1 (e : Ev) (w : World) (hS : Sh w) : Calls Tryd.prog 28 #[vE e] w (fun x w' => x = .returned (.bool (mayE e)) ∧ Bl w w') := by
  have c1 := fun V g => encE1 e V (hS.bl g)
  have hb : (encB e).2 = mayE e := by
    unfold encB mayE
    by_cases h : okE e
    · rw [if_pos h, decide_eq_true h]
    · rw [if_neg h, decide_eq_false h]
  unfold EncEQ at c1
  rw [hb] at c1
  generalize mayE e = B at *
  generalize (encB e).1.length = n at *
  obtain ⟨k, id, a, b⟩ := e
  unfold vE at *
  dsimp only at *
  clear hb
  go_enter Tryd.func28, Tryd.ntmps28
  go_wp2_with fail
  refine (c1 _ ((Bl.refl w).alloc _)).mono ?_
  rintro e w1 ⟨A, c, rfl, _, g1⟩
  go_wp2
  go_ret
  exact ⟨rfl, ((Bl.refl w).alloc _).trans g1⟩

end Go.Proofs.YthkbenhlhldglaaDoor
