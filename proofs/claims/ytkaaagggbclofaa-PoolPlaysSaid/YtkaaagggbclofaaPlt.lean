/-
  What is proved: the walk of the statement PoolPlays. No conditions but what an argument is.
-/
import Derived.Test.YtkaaagggbclofaaPlo
import Derived.Test.YtkaaagggbclofaaPlp
import Derived.Test.YtkaaagggbclofaaPlq
import Derived.Test.YtkaaagggbclofaaPlr
import Derived.Test.YtkaaagggbclofaaPls
namespace Go.Proofs.Ytkaaagggbclofaa
open Go.ChangeShapes Go.WideShapes Go.ChangeAt Go.RowKit Go.Joins Go.Sort Go.Deep Go.Maps

theorem plDoes1' {w : World} {pp nb bb j c : Nat} {Q : List Pq} {S : List Bf} {A : Option Addr} {D : List Db} (h : PlR w pp nb bb Q S j) (hd : DcR w A c D S) (hX : DcX (PlX pp nb bb Q) A D) (hj : j ≤ 1000) (d : Pd) (gd : GoodP w d) :
    Calls Try.prog 8 #[.pointer (some ⟨pp, 0, none⟩), .agg #[.slice A D.length c], .agg #[.int .i64 d.k, .int .i64 d.i, .int .i64 d.n, .int .i64 d.m, .int .i64 d.p, .int .i64 d.r, .int .i64 d.s, .int .i64 d.t, .slice d.A d.bs.length d.cap]] w (DoesQ w pp nb bb Q A D (j + 1)) := by
  obtain ⟨k, i, n, m, p, r, s, t, Ab, bs, cap⟩ := d
  obtain ⟨gi, gn, gm, gA, g8, glc, gcm⟩ := gd
  dsimp only at *
  have hk : k = 0 ∨ k = 1 ∨ k = 2 ∨ k = 3 ∨ k = 4 ∨ (k ≠ 0 ∧ k ≠ 1 ∧ k ≠ 2 ∧ k ≠ 3 ∧ k ≠ 4) := by omega
  rcases hk with rfl | rfl | rfl | rfl | rfl | ⟨k0, k1, k2, k3, k4⟩
  · exact plDoes0 h hd hX hj 0 i n m p r s t Ab bs bs.length cap rfl gi gn gm gA g8 glc gcm
  · exact plDoes1 h hd hX hj 0 i n m p r s t Ab bs bs.length cap rfl gi gn gm gA g8 glc gcm
  · exact plDoes2 h hd hX hj 0 i n m p r s t Ab bs bs.length cap rfl gi gn gm gA g8 glc gcm
  · exact plDoes3 h hd hX hj 0 i n m p r s t Ab bs bs.length cap rfl gi gn gm gA g8 glc gcm
  · exact plDoes4 h hd hX hj 0 i n m p r s t Ab bs bs.length cap rfl gi gn gm gA g8 glc gcm
  · exact plDoesE h hd hX hj k i n m p r s t Ab bs bs.length cap rfl gi gn gm gA g8 glc gcm k0 k1 k2 k3 k4

theorem Kx.new {X : Nat → Prop} {a b : World} (h : Kx X a b) {p : Addr} (hp : a.heap.size ≤ p.block) (u : Value) : Kx X a (b.setCell p u) :=
  ⟨h.os, h.tape, h.output, by simpa using h.size, fun k hk hx => (Below.heap_setCell _ _ _ _ (by omega)).trans (h.block k hk hx)⟩
theorem PlS.notP {w : World} {pp nb bb : Nat} {Q : List Pq} {S : List Bf} {N M : List Ik} (h : PlS w pp nb bb Q S N M) {b : Nat} {cs : Array Value} (hb : At w b cs 27) : ¬ PlX pp nb bb Q b := by
  rintro (rfl | rfl | rfl | ⟨q, hq, hk⟩)
  · exact (h.hd.neP hb (by decide)) rfl
  · exact (h.np.ne hb) rfl
  · exact (h.bp.ne hb) rfl
  · obtain ⟨j, hj⟩ := List.getElem?_of_mem hq
    obtain ⟨s, hs⟩ := list_at (l := S) (k := j) (by rw [← h.ln]; exact (List.getElem?_eq_some_iff.1 hj).1)
    have hc := h.bf j s q hs hj
    rcases hk with rfl | rfl
    · exact (hc.1.neP hb (by decide)) rfl
    · exact (hc.2.cs.neP hb (by decide)) rfl
theorem PlR.notP {w : World} {pp nb bb n : Nat} {Q : List Pq} {S : List Bf} (h : PlR w pp nb bb Q S n) {b : Nat} {cs : Array Value} (hb : At w b cs 27) : ¬ PlX pp nb bb Q b := by
  obtain ⟨⟨N, M, h1, _, _⟩, _⟩ := h
  exact h1.notP hb
/-- Both pools between two deeds: the document's lies in a box. -/
structure StP (w0 w : World) (pp nb bb rb : Nat) (Q : List Pq) (S : List Bf) (n : Nat) (A : Option Addr) (c : Nat) (D : List Db) : Prop where
  l : PlL w0 w pp nb bb Q S n
  d : DcR w A c D S
  x : DcX (PlX pp nb bb Q) A D
  y : DcX (fun k => k = rb) A D
  r : At w rb #[.slice A D.length c] 27
  lo : w0.heap.size ≤ rb
theorem StP.bl {w0 w w' : World} {pp nb bb rb n c : Nat} {Q : List Pq} {S : List Bf} {A : Option Addr} {D : List Db} (h : StP w0 w pp nb bb rb Q S n A c D) (g : Bl w w') : StP w0 w' pp nb bb rb Q S n A c D := { h with l := h.l.bl g, d := h.d.bl g, r := h.r.bl g }
/-- A deed was done, and the document's new pool stored. -/
theorem StP.next {w0 w w4 : World} {pp nb bb rb n c : Nat} {Q : List Pq} {S : List Bf} {A : Option Addr} {D : List Db} (h : StP w0 w pp nb bb rb Q S n A c D) {S' : List Bf} {Q' : List Pq} {A' : Option Addr} {c' : Nat} {D' : List Db}
    (hP : PlR w4 pp nb bb Q' S' (n + 1)) (hD : DcR w4 A' c' D' S') (hX : DcX (PlX pp nb bb Q') A' D') (k : Kx (PlX pp nb bb Q) w w4) (hQ : ∀ k, PlX pp nb bb Q' k → PlX pp nb bb Q k ∨ w.heap.size ≤ k) (hXY : ∀ X : Nat → Prop, (∀ k, X k → k < w.heap.size) → DcX X A D → DcX X A' D') :
    At w4 rb #[.slice A D.length c] 27 ∧ StP w0 (w4.setCell ⟨rb, 0, none⟩ (.slice A' D'.length c')) pp nb bb rb Q' S' (n + 1) A' c' D' := by
  have R4 := h.r.kx k (h.l.r.notP h.r)
  have hy := hXY (fun k => k = rb) (fun k hk => by subst hk; exact h.r.lt) h.y
  have g : w4.grownBy (w4.setCell ⟨rb, 0, none⟩ (.slice A' D'.length c')) (some rb) := By.set (p := ⟨rb, 0, none⟩) (By.refl w4 _) _
  have xQ : ∀ k, PlX pp nb bb Q' k → w0.heap.size ≤ k := fun k hk => by
    rcases hQ k hk with h' | h'
    · exact h.l.x k h'
    · exact Nat.le_trans h.l.g.size h'
  have g4 := k.under h.l.x h.l.g
  exact ⟨R4, ⟨⟨hP.farP R4 0 _, g4.grown g (fun j hj => by cases hj; exact h.lo), xQ⟩, hD.kx (Kx.by (X := fun k => k = rb) g rfl) hy, hX, hy, by simpa using R4.put 0 (.slice A' D'.length c'), h.lo⟩⟩

set_option maxRecDepth 100000 in
set_option maxHeartbeats 4000000 in
theorem plays12_core (Ad : Option Addr) (cd : Nat) (F : List Pd) (w : World) (hF : shPd.Rd w Ad F) (hG : ∀ d ∈ F, GoodP w d) : Calls Try.prog 3 #[.slice Ad F.length cd] w fun e w' => e = .returned (.bool true) ∧ Bl w w' := by
  have cl := fun V => plives1 V
  go_enter Try.func3, Try.ntmps3
  go_wp2_with fail
  refine (plNewL w w (Bl.refl w)).mono ?_
  rintro e w1 ⟨pp, nb, bb, rfl, L1⟩
  go_wp2_with fail
  have S2 : StP w (w1.alloc (.cells #[.slice none 0 0] 27)) pp nb bb w1.heap.size [] [] 0 none 0 [] :=
    { l := L1.bl ((Bl.refl _).alloc _), d := ⟨rfl, .inl rfl, by simp, by simp, by simp⟩, x := ⟨by simp, by simp⟩, y := ⟨by simp, by simp⟩, r := At.new w1 _ _, lo := L1.g.size }
  generalize w1.heap.size = rb at *
  clear L1
  go_loopw [5] (fun iv wr => ∃ (j : Nat) (S : List Bf) (Q : List Pq) (A : Option Addr) (c : Nat) (D : List Db), j ≤ F.length ∧ j ≤ 40 ∧ iv = .int .i64 (j : Int) ∧ StP w wr pp nb bb rb Q S j A c D) (fun iv _ => F.length - (intOf iv).toNat)
  case atStart => exact ⟨0, [], [], none, 0, [], by omega, by omega, rfl, S2⟩
  case round =>
    clear S2
    obtain ⟨j, S, Q, A, c, D, hj, hj40, rfl, T⟩ := hrel
    have t0 := T.r.cell 0
    by_cases hlt : j < F.length ∧ j < 40
    · obtain ⟨hlt, hlt2⟩ := hlt
      obtain ⟨d, hd⟩ := list_at hlt
      obtain ⟨gb, off, rfl, hrow⟩ := hF.opened (by omega)
      have hE := Lib.hid (fun (V : World) (g : Bl w V) => pd_at (hrow.bl g) hd)
      have hg := hG d (List.mem_of_getElem? hd)
      have cD := Lib.hid (fun (V : World) (g : Bl wr V) => plDoes1' (T.bl g).l.r (T.bl g).d (T.bl g).x (by omega) d (hg.bl (T.bl g).l.g))
      have q1 : decide ((j : Int) < (F.length : Int)) = true := by simpa using hlt
      have q2 : decide ((j : Int) < 40) = true := by simp; omega
      go_upto_region 8 with fail
      obtain ⟨e0, e1, e2, e3, e4, e5, e6, e7, e8⟩ := hE.out wr T.l.g
      have hgb : ¬ PlX pp nb bb Q gb := fun h => by have h1 := T.l.x _ h; have h2 := World.block_lt_of_cell? w _ ((pd_at hrow hd).1); simp at h2; omega
      have hrbn := T.l.r.notP T.r
      obtain ⟨dk, di, dn, dm, dp, dr, ds, dt, dA, dbs, dcap⟩ := d
      dsimp only at e0 e1 e2 e3 e4 e5 e6 e7 e8 cD
      generalize dbs.length = lb at *
      have SK := Lib.hid (fun (V : World) (g : Kx (PlX pp nb bb Q) wr V) => (show V.cell? ⟨rb, 0, none⟩ = some (.slice A D.length c) ∧ V.cell? ⟨gb, off + j * 9, none⟩ = some (.int .i64 dk) ∧ V.cell? ⟨gb, off + j * 9 + 1, none⟩ = some (.int .i64 di) ∧ V.cell? ⟨gb, off + j * 9 + 2, none⟩ = some (.int .i64 dn) ∧ V.cell? ⟨gb, off + j * 9 + 3, none⟩ = some (.int .i64 dm) ∧ V.cell? ⟨gb, off + j * 9 + 4, none⟩ = some (.int .i64 dp) ∧ V.cell? ⟨gb, off + j * 9 + 5, none⟩ = some (.int .i64 dr) ∧ V.cell? ⟨gb, off + j * 9 + 6, none⟩ = some (.int .i64 ds) ∧ V.cell? ⟨gb, off + j * 9 + 7, none⟩ = some (.int .i64 dt) ∧ V.cell? ⟨gb, off + j * 9 + 8, none⟩ = some (.slice dA lb dcap) ∧ Kx (PlX pp nb bb Q) wr V from
        ⟨g.cell t0 hrbn, g.cell e0 hgb, g.cell e1 hgb, g.cell e2 hgb, g.cell e3 hgb, g.cell e4 hgb, g.cell e5 hgb, g.cell e6 hgb, g.cell e7 hgb, g.cell e8 hgb, g⟩))
      have hnw : ¬ PlX pp nb bb Q wr.heap.size := fun h => by have := T.l.r.xlt h; omega
      clear t0 e0 e1 e2 e3 e4 e5 e6 e7 e8 hE hd hg hrow hgb hrbn
      go_region_held3 (fun V => V.cell? ⟨rb, 0, none⟩ = some (.slice A D.length c) ∧ V.cell? ⟨gb, off + j * 9, none⟩ = some (.int .i64 dk) ∧ V.cell? ⟨gb, off + j * 9 + 1, none⟩ = some (.int .i64 di) ∧ V.cell? ⟨gb, off + j * 9 + 2, none⟩ = some (.int .i64 dn) ∧ V.cell? ⟨gb, off + j * 9 + 3, none⟩ = some (.int .i64 dm) ∧ V.cell? ⟨gb, off + j * 9 + 4, none⟩ = some (.int .i64 dp) ∧ V.cell? ⟨gb, off + j * 9 + 5, none⟩ = some (.int .i64 dr) ∧ V.cell? ⟨gb, off + j * 9 + 6, none⟩ = some (.int .i64 ds) ∧ V.cell? ⟨gb, off + j * 9 + 7, none⟩ = some (.int .i64 dt) ∧ V.cell? ⟨gb, off + j * 9 + 8, none⟩ = some (.slice dA lb dcap) ∧ Kx (PlX pp nb bb Q) wr V) ((refine SK.out _ ?_; repeat (first | with_reducible assumption | with_reducible exact Kx.refl _ _ | with_reducible exact K7 | with_reducible exact Kx.gr (Kx.refl _ _) (Bl.refl _).drew | with_reducible exact Kx.gr (Kx.refl _ _) ((Bl.refl _).alloc _).drew | with_reducible exact Kx.gr (Kx.gr (Kx.refl _ _) (Bl.refl _).drew) ((Bl.refl _).alloc _) | with_reducible exact Kx.gr K7 ((Bl.refl _).alloc _) | with_reducible exact Kx.new K7 (p := ⟨wr.heap.size, 0, none⟩) (Nat.le_refl _) _))) ((first | (go_at_call 8; (refine (cD.out _ (by first | with_reducible exact Bl.refl _ | with_reducible exact (Bl.refl _).drew | with_reducible exact ((Bl.refl _).alloc _).drew | with_reducible exact (Bl.refl _).drew.alloc _)).mono ?_); rintro e V7 ⟨S7, Q7, A7, c7, D7, rfl, hP7, hD7, hX7, k7, hQ7, hXY7⟩; have K7 : Kx (PlX pp nb bb Q) wr V7 := (by first | with_reducible exact Kx.then (Kx.bl (Bl.refl wr).drew) k7 | with_reducible exact Kx.then (Kx.bl (((Bl.refl wr).alloc _).drew)) k7 | exact Kx.then (Kx.bl ((Bl.refl wr).drew.alloc _)) k7); (try (have R6 := ((At.new wr #[.slice none 0 0] 27).drew).kx k7 hnw; have r60 := R6.cell 0; have r6f := R6.free 0))) | fail))
      · obtain ⟨ZR, ZT⟩ := T.next (w4 := V7.alloc (.cells #[.slice A7 D7.length c7] 27)) (c' := c7) (hP7.bl ((Bl.refl _).alloc _)) (hD7.bl ((Bl.refl _).alloc _)) hX7 (K7.gr ((Bl.refl _).alloc _)) hQ7 hXY7
        have ZN := At.new V7 #[.slice A7 D7.length c7] 27
        have z0 := ZR.cell 0
        have zf := ZR.free 0
        have n0 := ZN.cell 0
        clear T SK cD K7 k7 hP7 hD7 hX7 hQ7 hXY7 hnw
        generalize V7.alloc (.cells #[.slice A7 D7.length c7] 27) = Z at *
        generalize V7.heap.size = nx at *
        go_wp2_with fail
        refine (pllike1 ZT.l.r ZT.d (by omega)).mono ?_
        rintro e v9 ⟨rfl, g9⟩
        have T9 := ZT.bl g9
        clear ZT ZN ZR z0 zf n0
        go_wp2
        go_roundw
        case rel => exact ⟨j + 1, S7, Q7, A7, c7, D7, by omega, by omega, by go_num, T9⟩
        case measure => simp [intOf]; omega
      · obtain ⟨ZR, ZT⟩ := T.next (w4 := V7.setCell ⟨wr.heap.size, 0, none⟩ (.slice A7 D7.length c7)) (c' := c7) (hP7.farP R6 0 _) (hD7.kx (Kx.by (X := fun k => k = wr.heap.size) (By.set (p := ⟨wr.heap.size, 0, none⟩) (By.refl V7 _) _) rfl) (hXY7 (fun k => k = wr.heap.size) (fun k hk => by simp; omega) (T.x.grow T.d T.l.r.ok (fun k hk => by right; omega)))) hX7 (K7.new (p := ⟨wr.heap.size, 0, none⟩) (Nat.le_refl _) _)
          (fun k hk => by rcases hQ7 k hk with h | h; exact .inl h; right; simp at h; omega) (fun X hx => hXY7 X (fun k hk => by have := hx k hk; simp; omega))
        have ZN := R6.put 0 (.slice A7 D7.length c7)
        simp at ZN
        have z0 := ZR.cell 0
        have zf := ZR.free 0
        have n0 := ZN.cell 0
        clear T SK cD K7 k7 hP7 hD7 hX7 hQ7 hXY7 hnw R6 r60 r6f
        generalize V7.setCell ⟨wr.heap.size, 0, none⟩ (.slice A7 D7.length c7) = Z at *
        generalize wr.heap.size = nx at *
        go_wp2_with fail
        refine (pllike1 ZT.l.r ZT.d (by omega)).mono ?_
        rintro e v9 ⟨rfl, g9⟩
        have T9 := ZT.bl g9
        clear ZT ZN ZR z0 zf n0
        go_wp2
        go_roundw
        case rel => exact ⟨j + 1, S7, Q7, A7, c7, D7, by omega, by omega, by go_num, T9⟩
        case measure => simp [intOf]; omega
    · have g := T.l.g
      have hbd : (decide ((j : Int) < (F.length : Int)) = false ∧ ¬ (j : Int) < (F.length : Int)) ∨ (decide ((j : Int) < (F.length : Int)) = true ∧ decide ((j : Int) < 40) = false ∧ j < F.length) := by
        rcases (show j = F.length ∨ (j < F.length ∧ 40 ≤ j) by omega) with h | h
        · exact .inl ⟨by simp; omega, by omega⟩
        · exact .inr ⟨by simp; omega, by simp; omega, h.1⟩
      clear hlt
      replace hj := Lib.hid hj
      replace hj40 := Lib.hid hj40
      rcases hbd with ⟨h, h'⟩ | ⟨h, h', h''⟩
      all_goals
        go_wp2_with fail
        refine (cl _).mono ?_
        rintro e w3 ⟨rfl, k3⟩
        go_wp2
        go_ret
        exact ⟨rfl, g.trans k3⟩

end Go.Proofs.Ytkaaagggbclofaa
