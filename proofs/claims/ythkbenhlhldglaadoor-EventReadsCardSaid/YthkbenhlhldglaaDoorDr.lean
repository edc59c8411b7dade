/-
  What is proved: the statement EventRow walked: the bytes of events are those of each, one behind the other, for any events. Conditions: bounds; the table of shapes reads as its initialiser lays it.
-/
import Derived.Test.YthkbenhlhldglaaDoorDl
import Derived.Test.YthkbenhlhldglaaDoorDm
namespace Go.Proofs.YthkbenhlhldglaaDoor
open Go.RowKit Go.Sort

/-- Two rows of a call's own lie apart. -/
def DjE (A C : Option Addr) : Prop := ∀ g, A.map (·.block) = some g → C.map (·.block) = some g → False
theorem DjE.nil (C : Option Addr) : DjE none C := fun g h => by cases h
theorem DjE.ne {A C : Option Addr} (h : DjE A C) : C = none ∨ C.map (·.block) ≠ A.map (·.block) := by
  cases C with
  | none => exact .inl rfl
  | some a => exact .inr (fun e => h a.block e.symm rfl)
theorem DjE.symm {A C : Option Addr} (h : DjE A C) : DjE C A := fun g h1 h2 => h g h2 h1
/-- One of them has grown. -/
theorem DjE.app {A C A' : Option Addr} (h : DjE A C) {w : World} {B : Nat} (hA : A'.map (·.block) = A.map (·.block) ∨ A'.map (·.block) = some w.heap.size) (hC : C = none ∨ ∃ g, C = some ⟨g, 0, none⟩ ∧ B ≤ g ∧ g < w.heap.size) : DjE A' C := fun g h1 h2 => by
  rcases hA with e | e
  · exact h g (e.symm.trans h1) h2
  · rw [e] at h1
    injection h1 with h1
    rcases hC with rfl | ⟨g', rfl, _, h3⟩
    · cases h2
    · simp at h2; omega
theorem goods_ok (L : List Ev) (k : Nat) : ∀ e ∈ (L.take k).map goodE, okE e := fun e he => by
  obtain ⟨x, _, rfl⟩ := List.mem_map.1 he
  exact goodE_ok x
theorem goods_snoc {L : List Ev} {k : Nat} {e : Ev} (h : L[k]? = some e) : (L.take (k + 1)).map goodE = (L.take k).map goodE ++ [goodE e] := by
  rw [take_snocE h, List.map_append]; rfl
set_option maxRecDepth 100000 in
set_option maxHeartbeats 4000000 in
theorem row_core (A0 : Option Addr) (c0 : Nat) (L0 : List Ev) (w : World) (hS : Sh w) (hX : Es w A0 L0) (hI : ∀ e ∈ L0, I64e e) (hlc : L0.length ≤ c0) (hcm : c0 ≤ maxLen) : Calls Tryd.prog 10 #[.slice A0 L0.length c0] w (fun e w' => e = .returned (.bool true) ∧ Bl w w') := by
  have hlm : (L0.length : Int) ≤ 9223372036854775807 := by unfold maxLen at hcm; omega
  obtain ⟨n, hn⟩ : ∃ n, n = L0.length := ⟨_, rfl⟩
  rw [← hn] at hlm ⊢
  replace hn := Lib.hid hn
  clear hlc hcm
  go_enter Tryd.func10, Tryd.ntmps10
  go_wp2
  go_loopw [3, 4, 5] (fun o p i wr => ∃ (k : Nat) (A : Option Addr) (c : Nat) (M : List Ev) (C : Option Addr) (d : Nat) (D : List Int), k ≤ n ∧ k ≤ 5 ∧ o = .slice A M.length c ∧ p = .slice C D.length d ∧ i = .int .i64 ((k : Nat) : Int) ∧ OwEv 62 wr w.heap.size A c M ∧ OwB wr w.heap.size C d D ∧ DjE A C ∧ Bl w wr ∧ Hid (M = (L0.take k).map goodE) ∧ Hid (D = bytesE M) ∧ Hid (M.length = k)) (fun _ _ i _ => 5 - (intOf i).toNat)
  case atStart => exact ⟨0, none, 0, [], none, 0, [], Nat.zero_le _, Nat.zero_le _, rfl, rfl, rfl, OwEv.nil _ _ _, OwB.nil _ _, DjE.nil _, Bl.refl _, Lib.hid rfl, Lib.hid rfl, Lib.hid rfl⟩
  case round =>
    obtain ⟨k, A, c, M, C, d, D, hk, hk5, rfl, rfl, rfl, own, owb, dj, G, hM, hD, hMk⟩ := hrel
    have hDl : D.length ≤ 75 := by
      have := bytesE_len M
      rw [← hD.out] at this
      have := hMk.out
      omega
    have hMl : M.length ≤ 5 := by have := hMk.out; omega
    by_cases hlt : k < n ∧ k < 5
    · obtain ⟨hlt, hlt5⟩ := hlt
      have q1 : (k : Int) < n := by omega
      have q5 : (k : Int) < 5 := by omega
      obtain ⟨b, off, e, rfl, he, hc⟩ := (hX.bl G).at (k := k) (by rw [← hn.out]; exact hlt)
      have hie := hI e (List.mem_of_getElem? he)
      have cg := fun V => goodE1 e V hie
      have hok := goodE_ok e
      have hMn : M ++ [goodE e] = (L0.take (k + 1)).map goodE := by rw [goods_snoc he, hM.out]
      have hDn : D ++ encM (msE (goodE e)) = bytesE (M ++ [goodE e]) := by rw [bytesE_snoc, hD.out]
      have cw : ∀ A' c' V, Sh V → Es V A' [goodE e] → Calls Tryd.prog 31 #[.slice A' 1 c'] V (PackQ V (encM (msE (goodE e)), 0)) := fun A' c' V h1 h2 => by
        have := evWrite1 A' c' [goodE e] V h1 h2 (by simp)
        rw [wrB_ok (by intro x hx; rw [List.mem_singleton] at hx; rw [hx]; exact hok)] at this
        have hb : bytesE [goodE e] = encM (msE (goodE e)) := by rw [bytesE_cons]; exact List.append_nil _
        rw [hb] at this
        exact this
      have hEl := (encE_len (goodE e)).1
      have co : ∀ A' c' V, Es V A' [goodE e] → Calls Tryd.prog 29 #[.slice A' 1 c'] V (MkE 65 V [goodE e]) := fun A' c' V h => ofE1 A' c' [goodE e] V h (by simp)
      unfold vE at cg
      generalize goodE e = q at *
      obtain ⟨F0, F1, F2, F3⟩ := hc
      obtain ⟨ek, eid, ea, eb⟩ := e
      obtain ⟨gk, gid, ga, gb⟩ := q
      dsimp only at *
      unfold PackQ at cw
      generalize encM (msE ⟨gk, gid, ga, gb⟩) = E at *
      dsimp only at cw
      replace hMn := Lib.hid hMn
      replace hDn := Lib.hid hDn
      replace hok := Lib.hid hok
      clear he hie hI
      go_wp2_with fail
      refine (cg _).mono ?_
      rintro e w1 ⟨rfl, g1⟩
      have own1' := own.bl g1
      have own1 := own1'.bl ((Bl.refl w1).alloc (.cells #[.int .i64 gk, .int .i64 gid, .int .i64 ga, .int .i64 gb] 62))
      have owb1 := (owb.bl g1).bl ((Bl.refl w1).alloc (.cells #[.int .i64 gk, .int .i64 gid, .int .i64 ga, .int .i64 gb] 62))
      have X1 := At.new w1 #[.int .i64 gk, .int .i64 gid, .int .i64 ga, .int .i64 gb] 62
      have G1 := (G.trans g1).alloc (.cells #[.int .i64 gk, .int .i64 gid, .int .i64 ga, .int .i64 gb] 62)
      clear own owb cg F0 F1 F2 F3
      obtain ⟨k0, k1, k2, k3⟩ := cells4E X1
      have X2 := At.newAt (w := w1.alloc (.cells #[.int .i64 gk, .int .i64 gid, .int .i64 ga, .int .i64 gb] 62)) (n := w1.heap.size + 1) (by simp) #[.int .i64 gk, .int .i64 gid, .int .i64 ga, .int .i64 gb] 62
      have own2 := own1.bl ((Bl.refl _).alloc (.cells #[.int .i64 gk, .int .i64 gid, .int .i64 ga, .int .i64 gb] 62))
      have owb2 := owb1.bl ((Bl.refl _).alloc (.cells #[.int .i64 gk, .int .i64 gid, .int .i64 ga, .int .i64 gb] 62))
      have G2 := G1.alloc (.cells #[.int .i64 gk, .int .i64 gid, .int .i64 ga, .int .i64 gb] 62)
      have hAw : some w1.heap.size ≠ A.map (·.block) := by
        rcases ow_lies own1' with h | ⟨q, h, _, hq⟩
        · rw [h]; simp
        · rw [h]; intro e; have e' : w1.heap.size = q := by simpa using e
          omega
      go_wp2_with (at_builtin; refine wp_app_gen (t := 60) Tryd.underlying60 infoRe rfl (by omega) (by omega) rfl (.tmp 26) (.tmp 28) rfl A M.length c (cEv M) rfl w.heap.size own2 (some ⟨w1.heap.size + 1, 0, none⟩) 1 1 [.int .i64 gk, .int .i64 gid, .int .i64 ga, .int .i64 gb] rfl (by simp) rfl (News.ev (e := ⟨gk, gid, ga, gb⟩) X2) (c4e_one ⟨gk, gid, ga, gb⟩) (by omega) G2.size ?_; intro A3 c3 w3 own3 by3 ad3; have G3 := app_bl by3 G2 (ow_lies own2) (Nat.le_refl _); have owb3 := owb2.by by3 dj.ne; have dj3 := dj.app ad3 owb2.lies; have X3 := (X1.bl ((Bl.refl _).alloc (.cells #[.int .i64 gk, .int .i64 gid, .int .i64 ga, .int .i64 gb] 62))).grown by3 hAw; have h30 := X3.cell 0; have h31 := X3.cell 1; have h32 := X3.cell 2; have h33 := X3.cell 3; simp only [List.getElem?_toArray, List.getElem?_cons_zero, List.getElem?_cons_succ] at h30 h31 h32 h33)
      have own3' := ow_snocE (e := ⟨gk, gid, ga, gb⟩) own3
      have X4 := At.new w3 #[.int .i64 gk, .int .i64 gid, .int .i64 ga, .int .i64 gb] 62
      have g4 := (Bl.refl w3).alloc (.cells #[.int .i64 gk, .int .i64 gid, .int .i64 ga, .int .i64 gb] 62)
      have co4 := co (some ⟨w3.heap.size, 0, none⟩) 1 _ (Es.one (e := ⟨gk, gid, ga, gb⟩) X4)
      clear own1 own2 owb1 owb2 X1 X2 own1' G1 G2 k0 k1 k2 k3 h30 h31 h32 h33 own3 by3 ad3 hAw co
      refine co4.mono ?_
      rintro e w5 ⟨A5, c5, rfl, ow5, g5⟩
      have H5 := g4.trans g5
      have cw5 := cw A5 c5 w5 (hS.bl (G3.trans H5)) ow5.es
      clear co4 cw X4 g4 g5 ow5
      go_wp2_with fail
      refine cw5.mono ?_
      rintro e w6 ⟨A6, c6, rfl, s6, g6⟩
      have H6 := H5.trans g6
      have own6 := own3'.bl H6
      have owb6 := owb3.bl H6
      have G6 := G3.trans H6
      obtain ⟨A', c', e0, e1, e2, e3, e4⟩ := s6
      injection e0 with i1 i2 i3
      subst i1 i3
      clear cw5 H5 g6 H6 own3' owb3 G3 i2 e2 e3 X3
      go_wp2_with (at_builtin; refine wp_app_b rfl (.tmp 39) (.tmp 40) rfl C d D rfl w.heap.size owb6 A6 E c6 rfl e1 e4 (by omega) G6.size ?_; intro C7 d7 w7 owb7 by7 ad7; have G7 := app_bl by7 G6 owb6.lies (Nat.le_refl _); have own7 := own6.by by7 dj3.symm.ne; have dj7 := (dj3.symm.app ad7 (ow_lies own6)).symm)
      go_roundw
      case rel => exact ⟨k + 1, A3, c3, M ++ [⟨gk, gid, ga, gb⟩], C7, d7, D ++ E, by omega, by omega, by simp, by simp, by go_num, own7, owb7, dj7, G7, hMn, hDn, by have := hMk.out; exact Lib.hid (by simp; omega)⟩
      case measure => simp [intOf]; omega
    · have hkk : k = n ∨ k = 5 := by omega
      have hall : ∀ e ∈ M, okE e := by rw [hM.out]; exact goods_ok L0 k
      have co := fun V g => ofE1 A c M V (own.es.bl g) (by omega)
      have cw := fun A' c' V (h1 : Sh V) (h2 : Es V A' M) => evWrite1 A' c' M V h1 h2 (by omega)
      rw [wrB_ok hall, ← hD.out] at cw
      unfold PackQ at cw
      dsimp only at cw
      obtain ⟨m, hm⟩ : ∃ m, m = M.length := ⟨_, rfl⟩
      rw [← hm] at co cw ⊢
      replace hm := Lib.hid hm
      clear hall hI
      have cl := fun V (g : Bl wr V) => livesE V ((hS.bl G).bl g)
      have sD := owb.sv
      by_cases hkn : k < n
      case' pos =>
        have q1 : (k : Int) < n := by omega
        have q5 : ¬ (k : Int) < 5 := by omega
      case' neg =>
        have q1 : ¬ (k : Int) < n := by omega
      all_goals
        clear hlt hkk hkn
        go_wp2_with fail
        refine (co wr (Bl.refl wr)).mono ?_
        rintro e w5 ⟨A5, c5, rfl, ow5, g5⟩
        have cw5 := cw A5 c5 w5 (hS.bl (G.trans g5)) ow5.es
        rw [← hm.out]
        clear co cw ow5
        go_wp2_with fail
        refine cw5.mono ?_
        rintro e w6 ⟨A6, c6, rfl, s6, g6⟩
        have g56 := g5.trans g6
        have s7 := sD.bl g56
        have t1 : (convert 22 9 (.slice A6 D.length c6)).run Tryd.prog w6 = .ok (.string (strOfNums D)) w6 := by
          obtain ⟨A', c', e0, _, _, _, e4⟩ := s6
          injection e0 with i1 i2 i3
          subst i1 i3
          exact Sv.text e4
        have t2 : (convert 22 9 (.slice C D.length d)).run Tryd.prog w6 = .ok (.string (strOfNums D)) w6 := by
          obtain ⟨A', c', e0, _, _, _, e4⟩ := s7
          injection e0 with i1 i2 i3
          subst i1 i3
          exact Sv.text e4
        have cl6 := cl w6 g56
        have G6 := G.trans g56
        generalize strOfNums D = TT at *
        clear s6 s7 sD cw5 cl
        generalize D.length = r at *
        go_wp2_with fail
        refine cl6.mono ?_
        rintro e w8 ⟨rfl, g8⟩
        go_wp2
        go_ret
        exact ⟨by simp, G6.trans g8⟩

end Go.Proofs.YthkbenhlhldglaaDoor
