/-
  What is proved: what region.Move, region.Scale, and the document's, hand back.
-/
import Derived.Test.YtbhekpcjdpbahaaHa
import Derived.Test.YtbhekpcjdpbahaaM3
import Derived.Test.YtbhekpcjdpbahaaM4
import Derived.Test.YtbhekpcjdpbahaaH1
import Derived.OwnWalk
namespace Go.Proofs.Ytbhekpcjdpbahaa
open Go.RowKit Go.Sort

/-- What is made of each rectangle of a row, up to the first error. -/
def EQ (F1 : Rc → Rc) (F2 : Rc → Int) (L R : List Rc) (e : Int) : Prop :=
  (∃ (k : Nat) (r : Rc), L[k]? = some r ∧ (∀ (j : Nat) (q : Rc), j < k → L[j]? = some q → F2 q = 0) ∧ F2 r = e ∧ e ≠ 0 ∧ R = []) ∨ ((∀ (j : Nat) (q : Rc), j < L.length → L[j]? = some q → F2 q = 0) ∧ R = L.map F1 ∧ e = 0)
theorem EQ.one {F1 : Rc → Rc} {F2 : Rc → Int} {L R R' : List Rc} {e e' : Int} (h : EQ F1 F2 L R e) (h' : EQ F1 F2 L R' e') : R = R' ∧ e = e' := by
  rcases h with ⟨k, r, h1, h2, h3, h4, h5⟩ | ⟨h1, h2, h3⟩ <;> rcases h' with ⟨k', r', h1', h2', h3', h4', h5'⟩ | ⟨h1', h2', h3'⟩
  · rcases Nat.lt_trichotomy k k' with hl | hl | hl
    · have := h2' k r hl h1; omega
    · subst hl
      rw [h1] at h1'
      injection h1' with h1'
      subst h1'
      exact ⟨h5.trans h5'.symm, h3.symm.trans h3'⟩
    · have := h2 k' r' hl h1'; omega
  · have := h1' k r (get_lt h1) h1; omega
  · have := h1 k' r' (get_lt h1') h1'; omega
  · exact ⟨h2.trans h2'.symm, h3.trans h3'.symm⟩
def RE (w : World) (Q : List Rc → Int → Prop) (e : Ending) (w' : World) : Prop := ∃ (A : Option Addr) (c : Nat) (R : List Rc) (z : Int), e = .returned (.tuple #[.slice A R.length c, .int .i64 z]) ∧ OwR w' w.heap.size A c R ∧ Q R z ∧ Bl w w'
theorem map_more {F : Rc → Rc} {L : List Rc} {k : Nat} {r : Rc} (h : L[k]? = some r) : (L.take (k + 1)).map F = (L.take k).map F ++ [F r] := by
  rw [take_more h, List.map_append]; rfl
theorem ok_more {F2 : Rc → Int} {L : List Rc} {k : Nat} {r : Rc} (h : L[k]? = some r) (h0 : F2 r = 0) (ho : ∀ (j : Nat) (q : Rc), j < k → L[j]? = some q → F2 q = 0) : ∀ (j : Nat) (q : Rc), j < k + 1 → L[j]? = some q → F2 q = 0 := fun j q hj hq => by
  rcases Nat.lt_or_ge j k with hl | hl
  · exact ho j q hl hq
  · obtain rfl : j = k := by omega
    rw [h] at hq
    injection hq with hq
    subst hq; exact h0

set_option maxRecDepth 100000 in
set_option maxHeartbeats 8000000 in
theorem eachR1 (g : FuncId) (cap : Array Value) (F1 : Rc → Rc) (F2 : Rc → Int) (A : Option Addr) (c : Nat) (L : List Rc) (w : World) (hA : Rs w A L) (hl : L.length ≤ 100000000) (hg : Kc g) (hc : ∀ r ∈ L, ∀ w', Bl w w' → Calls Try.prog g (#[.agg #[.int .i64 r.a, .int .i64 r.b, .int .i64 r.c, .int .i64 r.d]] ++ cap) w' (Rt w' (.tuple #[.agg #[.int .i64 (F1 r).a, .int .i64 (F1 r).b, .int .i64 (F1 r).c, .int .i64 (F1 r).d], .int .i64 (F2 r)]))) :
    Calls Try.prog 76 #[.slice A L.length c, .func (.func g) #[] cap] w (RE w (EQ F1 F2 L)) := by
  unfold Kc at hg
  obtain ⟨n, hn⟩ : ∃ n, n = L.length := ⟨_, rfl⟩
  rw [← hn] at hl ⊢
  replace hn := Lib.hid hn
  go_enter Try.func76, Try.ntmps76
  go_wp2
  go_loopw [6, 13] (fun v iv wr => ∃ (k : Nat) (A' : Option Addr) (c' : Nat) (O : List Rc), k ≤ n ∧ v = .slice A' O.length c' ∧ iv = .int .i64 k ∧ OwR wr w.heap.size A' c' O ∧ O.length ≤ k ∧ Hid (O = (L.take k).map F1) ∧ Hid (∀ (j : Nat) (q : Rc), j < k → L[j]? = some q → F2 q = 0) ∧ Bl w wr) (fun _ iv _ => n - (intOf iv).toNat)
  case atStart => exact ⟨0, none, 0, [], Nat.zero_le _, rfl, rfl, OwR.nil _ _, by simp, Lib.hid (by simp), Lib.hid (fun j q hj => by omega), Bl.refl w⟩
  case round =>
    obtain ⟨k, A', c', O, hk, rfl, rfl, own, hOl, hO, hok, G⟩ := hrel
    by_cases hlt : k < n
    · obtain ⟨r, hr⟩ := list_at (show k < L.length by rw [← hn.out]; exact hlt)
      obtain ⟨b, off, rfl, hrow⟩ := hA.opened (by have := hn.out; omega)
      obtain ⟨e1, e2, e3, e4⟩ := (hrow.bl G) k r hr
      have lb := World.block_lt_of_cell? _ _ e1
      have cc := hc r (List.mem_of_getElem? hr)
      have hmore := map_more (F := F1) hr
      rw [← hO.out] at hmore
      replace hmore := Lib.hid hmore
      have hbad : F2 r ≠ 0 → EQ F1 F2 L [] (F2 r) := fun h => Or.inl ⟨k, r, hr, hok.out, rfl, h, rfl⟩
      have hmok := fun h => ok_more (F2 := F2) hr h hok.out
      have szo := G.size
      replace hr := Lib.hid hr
      by_cases hz : F2 r = 0
      · replace hmok := Lib.hid (hmok hz)
        rw [hz] at cc
        clear hz hbad
        generalize F1 r = mR at *
        obtain ⟨ma, mb, mc, md⟩ := mR
        dsimp only at cc
        go_wp2_with fail
        refine (cc _ (G.alloc _)).mono ?_
        rintro e W2 ⟨rfl, g2⟩
        have G2 := (G.alloc (.cells #[.int .i64 r.a, .int .i64 r.b, .int .i64 r.c, .int .i64 r.d] 23)).trans g2.bl
        have o2 := (((own.bl ((Bl.refl wr).alloc (.cells #[.int .i64 r.a, .int .i64 r.b, .int .i64 r.c, .int .i64 r.d] 23))).bl g2.bl).bl ((Bl.refl W2).alloc (.cells #[.int .i64 ma, .int .i64 mb, .int .i64 mc, .int .i64 md] 23))).bl ((Bl.refl _).alloc (.cells #[.int .i64 ma, .int .i64 mb, .int .i64 mc, .int .i64 md] 23))
        have sz2 := G2.size
        clear e1 e2 e3 e4 lb
        go_wp2_with (at_builtin; refine wp_app_r rfl (.tmp 26) (.tmp 28) rfl A' c' O rfl w.heap.size o2 (W2.heap.size + 1) ⟨ma, mb, mc, md⟩ 1 rfl (At.newAt (w := W2.alloc (.cells #[.int .i64 ma, .int .i64 mb, .int .i64 mc, .int .i64 md] 23)) (by simp) _ _) (by omega) (by simp; omega) ?_; intro A3 c3 w3 own3 ap3)
        go_roundw
        case rel => exact ⟨k + 1, A3, c3, O ++ [⟨ma, mb, mc, md⟩], by omega, by simp, by go_num, own3, by simp; omega, Lib.hid hmore.out.symm, hmok, ap3.bl ((G2.alloc _).alloc _) o2.lies (Nat.le_refl _)⟩
        case measure => simp [intOf]; omega
      · have hzb : (F2 r != 0) = true := by simpa using hz
        replace hbad := Lib.hid (hbad hz)
        clear hz hmok hmore
        generalize F1 r = mR at *
        generalize hzz : F2 r = z at *
        replace hzz := Lib.hid hzz
        obtain ⟨ma, mb, mc, md⟩ := mR
        dsimp only at cc
        go_wp2_with fail
        refine (cc _ (G.alloc _)).mono ?_
        rintro e W2 ⟨rfl, g2⟩
        have G2 := (G.alloc (.cells #[.int .i64 r.a, .int .i64 r.b, .int .i64 r.c, .int .i64 r.d] 23)).trans g2.bl
        clear e1 e2 e3 e4 lb
        go_wp2
        go_ret2
        exact ⟨none, 0, [], z, rfl, OwR.nil _ _, hbad.out, G2.alloc _⟩
    · obtain rfl : k = n := by omega
      go_wp2
      go_ret2
      exact ⟨A', c', O, 0, rfl, own, .inr ⟨fun j q hj hq => hok.out j q (by have := hn.out; omega) hq, by rw [hO.out, hn.out, List.take_length], rfl⟩, G⟩

theorem OwR.base {w : World} {B B' : Nat} {A : Option Addr} {c : Nat} {L : List Rc} (h : OwR w B A c L) (hB : B' ≤ B) : OwR w B' A c L :=
  ⟨h.1, h.2.imp id fun ⟨g, cap, cur, h1, h2, r⟩ => ⟨g, cap, cur, h1, Nat.le_trans hB h2, r⟩⟩
def mvF (x y : Int) (r : Rc) : Rc := moveR r.a r.b r.c r.d x y
def mvE (x y : Int) (r : Rc) : Int := moveE r.a r.b r.c r.d x y
def scF (m : Int) (r : Rc) : Rc := scaleR r.a r.b r.c r.d m
def scE (m : Int) (r : Rc) : Int := scaleE r.a r.b r.c r.d m
def BdL (L : List Rc) : Prop := ∀ r ∈ L, Bd r.a ∧ Bd r.b ∧ Bd r.c ∧ Bd r.d
theorem kcMove : Kc 77 := fun _ _ => by kernel_rfl
theorem kcScale : Kc 78 := fun _ _ => by kernel_rfl

set_option maxHeartbeats 2000000 in
theorem movec1 (r : Rc) (x y : Int) (kx ky : Nat) (tx ty : TypeId) (w : World) (hX : At w kx #[.int .i64 x] tx) (hY : At w ky #[.int .i64 y] ty) (ha : Bd r.a) (hb : Bd r.b) (hc : Bd r.c) (hd : Bd r.d) (hx : I64 x) (hy : I64 y) :
    Calls Try.prog 77 #[.agg #[.int .i64 r.a, .int .i64 r.b, .int .i64 r.c, .int .i64 r.d], .pointer (some ⟨kx, 0, none⟩), .pointer (some ⟨ky, 0, none⟩)] w
      (Rt w (.tuple #[.agg #[.int .i64 (moveR r.a r.b r.c r.d x y).a, .int .i64 (moveR r.a r.b r.c r.d x y).b, .int .i64 (moveR r.a r.b r.c r.d x y).c, .int .i64 (moveR r.a r.b r.c r.d x y).d], .int .i64 (moveE r.a r.b r.c r.d x y)])) := by
  obtain ⟨a, b, c, d⟩ := r
  dsimp only at *
  have c1 := fun w => move1 a b c d x y w ha hb hc hd hx hy
  generalize moveR a b c d x y = R at *
  generalize moveE a b c d x y = E at *
  obtain ⟨ma, mb, mc, md⟩ := R
  dsimp only at *
  have f1 := hX.cell 0
  have f2 := hY.cell 0
  have l1 := hX.lt
  have l2 := hY.lt
  simp at f1 f2
  clear ha hb hc hd hx hy
  go_enter Try.func77, Try.ntmps77
  go_wp2_with fail
  refine (c1 _).mono ?_
  rintro e w' ⟨rfl, g1⟩
  have B := (At.newAt (w := w.alloc (.cells #[.int .i64 a, .int .i64 b, .int .i64 c, .int .i64 d] 23)) (n := w.heap.size + 1) (by simp) #[.int .i64 0, .int .i64 0, .int .i64 0, .int .i64 0] 23).gr g1
  have G := (((Gr.refl w).alloc (.cells #[.int .i64 a, .int .i64 b, .int .i64 c, .int .i64 d] 23)).alloc (.cells #[.int .i64 0, .int .i64 0, .int .i64 0, .int .i64 0] 23)).trans g1
  have b0 := B.cell 0; have b1 := B.cell 1; have b2 := B.cell 2; have b3 := B.cell 3
  have q0 := B.free 0; have q1 := B.free 1; have q2 := B.free 2; have q3 := B.free 3
  simp at b0 b1 b2 b3
  go_wp2
  have B' := At.put4 B (.int .i64 ma) (.int .i64 mb) (.int .i64 mc) (.int .i64 md)
  have k0 := B'.cell 0; have k1 := B'.cell 1; have k2 := B'.cell 2; have k3 := B'.cell 3
  simp at k0 k1 k2 k3
  refine bodyPost_ret (v := .tuple #[.agg #[.int .i64 ma, .int .i64 mb, .int .i64 mc, .int .i64 md], .int .i64 E]) (by simp [results, Try.results77, go_sem, k0, k1, k2, k3]) rfl ⟨rfl, ?_⟩
  repeat (first | with_reducible exact G | (with_reducible refine Gr.setCell ?_ ?_ _; rotate_left; (simp; try omega)))

set_option maxHeartbeats 2000000 in
theorem scalec1 (r : Rc) (m : Int) (kx : Nat) (tx : TypeId) (w : World) (hX : At w kx #[.int .i64 m] tx) (hm : I64 m) :
    Calls Try.prog 78 #[.agg #[.int .i64 r.a, .int .i64 r.b, .int .i64 r.c, .int .i64 r.d], .pointer (some ⟨kx, 0, none⟩)] w
      (Rt w (.tuple #[.agg #[.int .i64 (scaleR r.a r.b r.c r.d m).a, .int .i64 (scaleR r.a r.b r.c r.d m).b, .int .i64 (scaleR r.a r.b r.c r.d m).c, .int .i64 (scaleR r.a r.b r.c r.d m).d], .int .i64 (scaleE r.a r.b r.c r.d m)])) := by
  obtain ⟨a, b, c, d⟩ := r
  dsimp only at *
  have c1 := fun w => scale1 a b c d m w hm
  generalize scaleR a b c d m = R at *
  generalize scaleE a b c d m = E at *
  obtain ⟨ma, mb, mc, md⟩ := R
  dsimp only at *
  have f1 := hX.cell 0
  have l1 := hX.lt
  simp at f1
  clear hm
  go_enter Try.func78, Try.ntmps78
  go_wp2_with fail
  refine (c1 _).mono ?_
  rintro e w' ⟨rfl, g1⟩
  have B := (At.newAt (w := w.alloc (.cells #[.int .i64 a, .int .i64 b, .int .i64 c, .int .i64 d] 23)) (n := w.heap.size + 1) (by simp) #[.int .i64 0, .int .i64 0, .int .i64 0, .int .i64 0] 23).gr g1
  have G := (((Gr.refl w).alloc (.cells #[.int .i64 a, .int .i64 b, .int .i64 c, .int .i64 d] 23)).alloc (.cells #[.int .i64 0, .int .i64 0, .int .i64 0, .int .i64 0] 23)).trans g1
  have b0 := B.cell 0; have b1 := B.cell 1; have b2 := B.cell 2; have b3 := B.cell 3
  have q0 := B.free 0; have q1 := B.free 1; have q2 := B.free 2; have q3 := B.free 3
  simp at b0 b1 b2 b3
  go_wp2
  have B' := At.put4 B (.int .i64 ma) (.int .i64 mb) (.int .i64 mc) (.int .i64 md)
  have k0 := B'.cell 0; have k1 := B'.cell 1; have k2 := B'.cell 2; have k3 := B'.cell 3
  simp at k0 k1 k2 k3
  refine bodyPost_ret (v := .tuple #[.agg #[.int .i64 ma, .int .i64 mb, .int .i64 mc, .int .i64 md], .int .i64 E]) (by simp [results, Try.results78, go_sem, k0, k1, k2, k3]) rfl ⟨rfl, ?_⟩
  repeat (first | with_reducible exact G | (with_reducible refine Gr.setCell ?_ ?_ _; rotate_left; (simp; try omega)))

set_option maxHeartbeats 2000000 in
theorem moveR1 (A : Option Addr) (c : Nat) (L : List Rc) (x y : Int) (w : World) (hA : Rs w A L) (hl : L.length ≤ 100000000) (hb : BdL L) (hx : I64 x) (hy : I64 y) :
    Calls Try.prog 48 #[.slice A L.length c, .int .i64 x, .int .i64 y] w (RE w (EQ (mvF x y) (mvE x y) L)) := by
  have G := ((Bl.refl w).alloc (.cells #[.int .i64 x] 3)).alloc (.cells #[.int .i64 y] 3)
  have X := (At.new w #[.int .i64 x] 3).alloc (.cells #[.int .i64 y] 3)
  have Y := At.newAt (w := w.alloc (.cells #[.int .i64 x] 3)) (n := w.heap.size + 1) (by simp) #[.int .i64 y] 3
  have cE := eachR1 77 #[.pointer (some ⟨w.heap.size, 0, none⟩), .pointer (some ⟨w.heap.size + 1, 0, none⟩)] (mvF x y) (mvE x y) A c L _ (hA.bl G) hl kcMove
    (fun r hr w' g => movec1 r x y _ _ _ _ w' (X.bl g) (Y.bl g) (hb r hr).1 (hb r hr).2.1 (hb r hr).2.2.1 (hb r hr).2.2.2 hx hy)
  generalize EQ (mvF x y) (mvE x y) L = Q at *
  generalize L.length = n at *
  clear hb hx hy hl
  go_enter Try.func48, Try.ntmps48
  go_wp2_with fail
  refine cE.mono ?_
  rintro e w' ⟨A1, c1, R, z, rfl, o1, hq, g1⟩
  go_wp2
  go_ret2
  exact ⟨A1, c1, R, z, rfl, OwR.base o1 (by simp; omega), hq, G.trans g1⟩

set_option maxHeartbeats 2000000 in
theorem scaleRo (A : Option Addr) (c n : Nat) (m : Int) (w : World) (hm : m < 1 ∨ 8 < m) :
    Calls Try.prog 50 #[.slice A n c, .int .i64 m] w (fun e w' => e = .returned (.tuple #[.slice none 0 0, .int .i64 1]) ∧ Bl w w') := by
  by_cases h : m < 1
  · go_enter Try.func50, Try.ntmps50
    go_wp2
    go_ret2
    exact ⟨rfl, (Bl.refl w).alloc _⟩
  · have h8 : 8 < m := by omega
    have h1 : ¬ m < 1 := by omega
    go_enter Try.func50, Try.ntmps50
    go_wp2
    go_ret2
    exact ⟨rfl, (Bl.refl w).alloc _⟩
set_option maxHeartbeats 2000000 in
theorem scaleR1 (A : Option Addr) (c : Nat) (L : List Rc) (m : Int) (w : World) (hA : Rs w A L) (hl : L.length ≤ 100000000) (h1 : 1 ≤ m) (h8 : m ≤ 8) :
    Calls Try.prog 50 #[.slice A L.length c, .int .i64 m] w (RE w (EQ (scF m) (scE m) L)) := by
  have G := (Bl.refl w).alloc (.cells #[.int .i64 m] 3)
  have X := At.new w #[.int .i64 m] 3
  have cE := eachR1 78 #[.pointer (some ⟨w.heap.size, 0, none⟩)] (scF m) (scE m) A c L _ (hA.bl G) hl kcScale
    (fun r hr w' g => scalec1 r m _ _ w' (X.bl g) (by unfold I64; omega))
  generalize EQ (scF m) (scE m) L = Q at *
  generalize L.length = n at *
  clear hl X hA
  have q1 : ¬ m < 1 := by omega
  have q2 : ¬ 8 < m := by omega
  go_enter Try.func50, Try.ntmps50
  go_wp2_with fail
  refine cE.mono ?_
  rintro e w' ⟨A1, c1, R, z, rfl, o1, hq, g1⟩
  go_wp2
  go_ret2
  exact ⟨A1, c1, R, z, rfl, OwR.base o1 (by simp), hq, G.trans g1⟩

set_option maxRecDepth 100000 in
set_option maxHeartbeats 8000000 in
theorem refmoveR1 (x y : Int) (A : Option Addr) (c : Nat) (L : List Rc) (w : World) (hA : Rs w A L) (hl : L.length ≤ 100000000) (hb : BdL L) (hx : I64 x) (hy : I64 y) :
    Calls Try.prog 49 #[.slice A L.length c, .int .i64 x, .int .i64 y] w (RE w (EQ (mvF x y) (mvE x y) L)) := by
  obtain ⟨n, hn⟩ : ∃ n, n = L.length := ⟨_, rfl⟩
  rw [← hn] at hl ⊢
  replace hn := Lib.hid hn
  go_enter Try.func49, Try.ntmps49
  go_wp2
  go_loopw [8, 9] (fun v iv wr => ∃ (k : Nat) (A' : Option Addr) (c' : Nat) (O : List Rc), k ≤ n ∧ v = .slice A' O.length c' ∧ iv = .int .i64 k ∧ OwR wr w.heap.size A' c' O ∧ O.length ≤ k ∧ Hid (O = (L.take k).map (mvF x y)) ∧ Hid (∀ (j : Nat) (q : Rc), j < k → L[j]? = some q → (mvE x y) q = 0) ∧ Bl w wr) (fun _ iv _ => n - (intOf iv).toNat)
  case atStart => exact ⟨0, none, 0, [], Nat.zero_le _, rfl, rfl, OwR.nil _ _, by simp, Lib.hid (by simp), Lib.hid (fun j q hj => by omega), Bl.refl w⟩
  case round =>
    obtain ⟨k, A', c', O, hk, rfl, rfl, own, hOl, hO, hok, G⟩ := hrel
    by_cases hlt : k < n
    · obtain ⟨r, hr⟩ := list_at (show k < L.length by rw [← hn.out]; exact hlt)
      obtain ⟨b, off, rfl, hrow⟩ := hA.opened (by have := hn.out; omega)
      obtain ⟨e1, e2, e3, e4⟩ := (hrow.bl G) k r hr
      have lb := World.block_lt_of_cell? _ _ e1
      have cc := (show ∀ w', Bl w w' → Calls Try.prog 16 #[.agg #[.int .i64 r.a, .int .i64 r.b, .int .i64 r.c, .int .i64 r.d], .int .i64 x, .int .i64 y] w' (Rt w' (.tuple #[.agg #[.int .i64 (mvF x y r).a, .int .i64 (mvF x y r).b, .int .i64 (mvF x y r).c, .int .i64 (mvF x y r).d], .int .i64 (mvE x y r)])) from fun w' _ => refmove1 r.a r.b r.c r.d x y w' (hb r (List.mem_of_getElem? hr)).1 (hb r (List.mem_of_getElem? hr)).2.1 (hb r (List.mem_of_getElem? hr)).2.2.1 (hb r (List.mem_of_getElem? hr)).2.2.2 hx hy)
      have hmore := map_more (F := (mvF x y)) hr
      rw [← hO.out] at hmore
      replace hmore := Lib.hid hmore
      have hbad : (mvE x y) r ≠ 0 → EQ (mvF x y) (mvE x y) L [] ((mvE x y) r) := fun h => Or.inl ⟨k, r, hr, hok.out, rfl, h, rfl⟩
      have hmok := fun h => ok_more (F2 := (mvE x y)) hr h hok.out
      have szo := G.size
      replace hr := Lib.hid hr
      by_cases hz : (mvE x y) r = 0
      · replace hmok := Lib.hid (hmok hz)
        rw [hz] at cc
        clear hz hbad
        generalize (mvF x y) r = mR at *
        obtain ⟨ma, mb, mc, md⟩ := mR
        dsimp only at cc
        go_wp2_with fail
        refine (cc _ G).mono ?_
        rintro e W2 ⟨rfl, g2⟩
        have G2 := (G).trans g2.bl
        have o2 := (((own.bl (Bl.refl wr)).bl g2.bl).bl ((Bl.refl W2).alloc (.cells #[.int .i64 ma, .int .i64 mb, .int .i64 mc, .int .i64 md] 23))).bl ((Bl.refl _).alloc (.cells #[.int .i64 ma, .int .i64 mb, .int .i64 mc, .int .i64 md] 23))
        have sz2 := G2.size
        clear e1 e2 e3 e4 lb
        go_wp2_with (at_builtin; refine wp_app_r rfl (.tmp 31) (.tmp 33) rfl A' c' O rfl w.heap.size o2 (W2.heap.size + 1) ⟨ma, mb, mc, md⟩ 1 rfl (At.newAt (w := W2.alloc (.cells #[.int .i64 ma, .int .i64 mb, .int .i64 mc, .int .i64 md] 23)) (by simp) _ _) (by omega) (by simp; omega) ?_; intro A3 c3 w3 own3 ap3)
        go_roundw
        case rel => exact ⟨k + 1, A3, c3, O ++ [⟨ma, mb, mc, md⟩], by omega, by simp, by go_num, own3, by simp; omega, Lib.hid hmore.out.symm, hmok, ap3.bl ((G2.alloc _).alloc _) o2.lies (Nat.le_refl _)⟩
        case measure => simp [intOf]; omega
      · have hzb : ((mvE x y) r != 0) = true := by simpa using hz
        replace hbad := Lib.hid (hbad hz)
        clear hz hmok hmore
        generalize (mvF x y) r = mR at *
        generalize hzz : (mvE x y) r = z at *
        replace hzz := Lib.hid hzz
        obtain ⟨ma, mb, mc, md⟩ := mR
        dsimp only at cc
        go_wp2_with fail
        refine (cc _ G).mono ?_
        rintro e W2 ⟨rfl, g2⟩
        have G2 := (G).trans g2.bl
        clear e1 e2 e3 e4 lb
        go_wp2
        go_ret2
        exact ⟨none, 0, [], z, rfl, OwR.nil _ _, hbad.out, G2.alloc _⟩
    · obtain rfl : k = n := by omega
      go_wp2
      go_ret2
      exact ⟨A', c', O, 0, rfl, own, .inr ⟨fun j q hj hq => hok.out j q (by have := hn.out; omega) hq, by rw [hO.out, hn.out, List.take_length], rfl⟩, G⟩

set_option maxRecDepth 100000 in
set_option maxHeartbeats 8000000 in
theorem refscaleR1 (m : Int) (A : Option Addr) (c : Nat) (L : List Rc) (w : World) (hA : Rs w A L) (hl : L.length ≤ 100000000) (h1 : 1 ≤ m) (h8 : m ≤ 8) :
    Calls Try.prog 51 #[.slice A L.length c, .int .i64 m] w (RE w (EQ (scF m) (scE m) L)) := by
  have q1 : ¬ m < 1 := by omega
  have q2 : ¬ 8 < m := by omega
  obtain ⟨n, hn⟩ : ∃ n, n = L.length := ⟨_, rfl⟩
  rw [← hn] at hl ⊢
  replace hn := Lib.hid hn
  go_enter Try.func51, Try.ntmps51
  go_wp2
  go_loopw [6, 7] (fun v iv wr => ∃ (k : Nat) (A' : Option Addr) (c' : Nat) (O : List Rc), k ≤ n ∧ v = .slice A' O.length c' ∧ iv = .int .i64 k ∧ OwR wr w.heap.size A' c' O ∧ O.length ≤ k ∧ Hid (O = (L.take k).map (scF m)) ∧ Hid (∀ (j : Nat) (q : Rc), j < k → L[j]? = some q → (scE m) q = 0) ∧ Bl w wr) (fun _ iv _ => n - (intOf iv).toNat)
  case atStart => exact ⟨0, none, 0, [], Nat.zero_le _, rfl, rfl, OwR.nil _ _, by simp, Lib.hid (by simp), Lib.hid (fun j q hj => by omega), Bl.refl w⟩
  case round =>
    obtain ⟨k, A', c', O, hk, rfl, rfl, own, hOl, hO, hok, G⟩ := hrel
    by_cases hlt : k < n
    · obtain ⟨r, hr⟩ := list_at (show k < L.length by rw [← hn.out]; exact hlt)
      obtain ⟨b, off, rfl, hrow⟩ := hA.opened (by have := hn.out; omega)
      obtain ⟨e1, e2, e3, e4⟩ := (hrow.bl G) k r hr
      have lb := World.block_lt_of_cell? _ _ e1
      have cc := (show ∀ w', Bl w w' → Calls Try.prog 18 #[.agg #[.int .i64 r.a, .int .i64 r.b, .int .i64 r.c, .int .i64 r.d], .int .i64 m] w' (Rt w' (.tuple #[.agg #[.int .i64 (scF m r).a, .int .i64 (scF m r).b, .int .i64 (scF m r).c, .int .i64 (scF m r).d], .int .i64 (scE m r)])) from fun w' _ => refscale1 r.a r.b r.c r.d m w' (by unfold I64; omega))
      have hmore := map_more (F := (scF m)) hr
      rw [← hO.out] at hmore
      replace hmore := Lib.hid hmore
      have hbad : (scE m) r ≠ 0 → EQ (scF m) (scE m) L [] ((scE m) r) := fun h => Or.inl ⟨k, r, hr, hok.out, rfl, h, rfl⟩
      have hmok := fun h => ok_more (F2 := (scE m)) hr h hok.out
      have szo := G.size
      replace hr := Lib.hid hr
      by_cases hz : (scE m) r = 0
      · replace hmok := Lib.hid (hmok hz)
        rw [hz] at cc
        clear hz hbad
        generalize (scF m) r = mR at *
        obtain ⟨ma, mb, mc, md⟩ := mR
        dsimp only at cc
        go_wp2_with fail
        refine (cc _ G).mono ?_
        rintro e W2 ⟨rfl, g2⟩
        have G2 := (G).trans g2.bl
        have o2 := (((own.bl (Bl.refl wr)).bl g2.bl).bl ((Bl.refl W2).alloc (.cells #[.int .i64 ma, .int .i64 mb, .int .i64 mc, .int .i64 md] 23))).bl ((Bl.refl _).alloc (.cells #[.int .i64 ma, .int .i64 mb, .int .i64 mc, .int .i64 md] 23))
        have sz2 := G2.size
        clear e1 e2 e3 e4 lb
        go_wp2_with (at_builtin; refine wp_app_r rfl (.tmp 34) (.tmp 36) rfl A' c' O rfl w.heap.size o2 (W2.heap.size + 1) ⟨ma, mb, mc, md⟩ 1 rfl (At.newAt (w := W2.alloc (.cells #[.int .i64 ma, .int .i64 mb, .int .i64 mc, .int .i64 md] 23)) (by simp) _ _) (by omega) (by simp; omega) ?_; intro A3 c3 w3 own3 ap3)
        go_roundw
        case rel => exact ⟨k + 1, A3, c3, O ++ [⟨ma, mb, mc, md⟩], by omega, by simp, by go_num, own3, by simp; omega, Lib.hid hmore.out.symm, hmok, ap3.bl ((G2.alloc _).alloc _) o2.lies (Nat.le_refl _)⟩
        case measure => simp [intOf]; omega
      · have hzb : ((scE m) r != 0) = true := by simpa using hz
        replace hbad := Lib.hid (hbad hz)
        clear hz hmok hmore
        generalize (scF m) r = mR at *
        generalize hzz : (scE m) r = z at *
        replace hzz := Lib.hid hzz
        obtain ⟨ma, mb, mc, md⟩ := mR
        dsimp only at cc
        go_wp2_with fail
        refine (cc _ G).mono ?_
        rintro e W2 ⟨rfl, g2⟩
        have G2 := (G).trans g2.bl
        clear e1 e2 e3 e4 lb
        go_wp2
        go_ret2
        exact ⟨none, 0, [], z, rfl, OwR.nil _ _, hbad.out, G2.alloc _⟩
    · obtain rfl : k = n := by omega
      go_wp2
      go_ret2
      exact ⟨A', c', O, 0, rfl, own, .inr ⟨fun j q hj hq => hok.out j q (by have := hn.out; omega) hq, by rw [hO.out, hn.out, List.take_length], rfl⟩, G⟩

end Go.Proofs.Ytbhekpcjdpbahaa
