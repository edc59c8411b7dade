/-
  What is proved: plain mathematics of package surface: a state, a surface, what a commit makes of it, and what it damages. No conditions. blocks of many cells: what a range of them loads, and what a store into them leaves. No conditions. what Layer, New and the setters of package surface, and Layer and New of the document's surfaces, hand back. No conditions. how a client lies; what New, buffer and surface of package client make of it. Conditions: numbers are ints; few buffers. what Box and Hides of package surface, and of the document's states, hand back. No conditions but what their callees tell. what Copy of package image does, from one image to another one whose colors' block goes on behind them. No conditions but bounds. plain mathematics of package surface, further: what Place and Solid tell of a state, what is copied row by row. No conditions. what ahead, copied and standAlike of package surface hand back. No conditions but bounds.
-/
import Derived.Test.YtablogiielclaaaGreatZz14
import Derived.Test.YtablogiielclaaaGreatZz8
import Derived.Test.YtablogiielclaaaGreatZz19
import Derived.Test.YtablogiielclaaaGreatZz9
import Derived.Test.YtablogiielclaaaGreatZz1
import Derived.Test.YtablogiielclaaaGreatZz11
import Derived.Test.YtablogiielclaaaGreatZz18
import Derived.Test.YtablogiielclaaaGreatZz15
import Derived.Test.YtablogiielclaaaGreatZz16
import Derived.Test.YtablogiielclaaaGreatZz7
import Derived.Test.YtablogiielclaaaGreatZz13
import Derived.Great.BuildSlice
import Derived.OwnWalk
import Derived.Deep.RegionHeld3
namespace Go.Proofs.YtablogiielclaaaGreat
open Go.RowKit Go.Sort

/-- A region of just these points. -/
def Rgn (R : List Rc) (P : Int → Int → Bool) : Prop := IsReg R ∧ ∀ x y, hasL R x y = P x y
theorem Rgn.same {R S : List Rc} {P Q : Int → Int → Bool} (h : Rgn R P) (k : Rgn S Q) (hPQ : ∀ x y, P x y = Q x y) : R = S := reg_same h.1 k.1 fun x y => by rw [h.2, k.2, hPQ]
theorem Rgn.to {R : List Rc} {P Q : Int → Int → Bool} (h : Rgn R P) (hPQ : ∀ x y, P x y = Q x y) : Rgn R Q := ⟨h.1, fun x y => (h.2 x y).trans (hPQ x y)⟩
theorem Rgn.nil : Rgn [] (fun _ _ => false) := ⟨⟨[], ⟨Wk.nil, by simp⟩, rfl⟩, fun _ _ => rfl⟩
/-- The region of these points, if there is one. -/
noncomputable def rg (P : Int → Int → Bool) : List Rc := open Classical in if h : ∃ R, Rgn R P then Classical.choose h else []
theorem Rgn.rg {R : List Rc} {P : Int → Int → Bool} (h : Rgn R P) : R = rg P := by
  have hx : ∃ R, Rgn R P := ⟨R, h⟩
  unfold Go.Proofs.YtablogiielclaaaGreat.rg
  rw [dif_pos hx]
  exact h.same (Classical.choose_spec hx) fun _ _ => rfl
/-- A state: an image or none (so), its place, scale, alpha, clip, its opaque region. -/
structure Tq where
  so : Bool
  W : Nat
  H : Nat
  F : List Int
  ax : Int
  ay : Int
  s : Int
  al : Int
  cp : Rc
  op : List Rc
/-- A surface: its state, what is pending, what is attached, the damage, what is declared, its frames. -/
structure Sq where
  now : Tq
  p : Tq
  so : Bool
  W : Nat
  H : Nat
  F : List Int
  dm : List Rc
  dc : Rc
  fr : List Int
def farR : Rc := ⟨-1048576, -1048576, 1048576, 1048576⟩
def firstT : Tq := ⟨false, 0, 0, [], 0, 0, 1, 255, farR, []⟩
def firstS : Sq := ⟨firstT, firstT, false, 0, 0, [], [], ⟨0, 0, 0, 0⟩, []⟩
/-- Whether what is pending may be. -/
def mayS (S : Sq) : Bool := !S.so || lyMay S.W S.H S.p.s S.p.al S.p.ax S.p.ay
def copP (S : Sq) (x y : Int) : Bool := hasL S.dm x y && hasB 0 0 S.W S.H x y
/-- The copied points. -/
noncomputable def copS (S : Sq) : List Rc := if S.so = true then rg (copP S) else []
def baseF (S : Sq) : List Int := if S.now.so = true ∧ S.now.W = S.W ∧ S.now.H = S.H then S.now.F else List.replicate (S.W * S.H) 0
noncomputable def newF (S : Sq) : List Int := upto (fun i => if hasL (copS S) (i % S.W : Nat) (i / S.W : Nat) = true then S.F.getD i 0 else (baseF S).getD i 0) (S.W * S.H)
noncomputable def opP (S : Sq) (x y : Int) : Bool := hasB 0 0 S.W S.H x y && (hasB S.dc.a S.dc.b S.dc.c S.dc.d x y && pA (atV S.W S.H (newF S) x y) == 255)
noncomputable def newT (S : Sq) : Tq := if S.so = true then ⟨true, S.W, S.H, newF S, S.p.ax, S.p.ay, S.p.s, S.p.al, S.p.cp, rg (opP S)⟩ else ⟨false, 0, 0, [], S.p.ax, S.p.ay, S.p.s, S.p.al, S.p.cp, []⟩
def boxT (T : Tq) : Rc := if T.so = true then lyBox T.cp T.W T.H T.s T.ax T.ay else ⟨0, 0, 0, 0⟩
def alikeT (T U : Tq) : Bool := T.so && (U.so && (decide (T.W = U.W ∧ T.H = U.H) && decide (T.ax = U.ax ∧ T.ay = U.ay ∧ T.s = U.s ∧ T.al = U.al ∧ T.cp = U.cp)))
def placeP (T : Tq) (C : List Rc) (x y : Int) : Bool := lyHas T.cp T.W T.H T.s T.ax T.ay x y && hasL C ((x - T.ax) / T.s) ((y - T.ay) / T.s)
noncomputable def dmgP (S : Sq) (x y : Int) : Bool := if alikeT S.now (newT S) = true then placeP (newT S) (copS S) x y else (hasB (boxT S.now).a (boxT S.now).b (boxT S.now).c (boxT S.now).d x y || hasB (boxT (newT S)).a (boxT (newT S)).b (boxT (newT S)).c (boxT (newT S)).d x y)
noncomputable def dmgS (S : Sq) : List Rc := if mayS S = true then rg (dmgP S) else []
noncomputable def comS (S : Sq) : Sq := if mayS S = true then { S with now := newT S, p := newT S, dm := [], fr := [] } else S
noncomputable def comN (S : Sq) : Int := if mayS S = true then areaL (copS S) else 0
noncomputable def comF (S : Sq) : List Int := if mayS S = true then S.fr else []
def comE (S : Sq) : Int := if mayS S = true then 0 else 4
/-- What a state hides. -/
noncomputable def hidT (T : Tq) : List Rc := if T.so = true ∧ T.al = 255 then rg (placeP T T.op) else []

/-- What a state is good for. -/
structure GoodT (T : Tq) : Prop where
  w1 : T.so = true → 1 ≤ T.W ∧ T.W ≤ 16
  h1 : T.so = true → 1 ≤ T.H ∧ T.H ≤ 16
  len : T.so = true → T.F.length = T.W * T.H
  may : T.so = true → MayL T.F
  ly : T.so = true → lyMay T.W T.H T.s T.al T.ax T.ay = true
  non : T.so = false → T.W = 0 ∧ T.H = 0 ∧ T.F = [] ∧ T.op = []
  reg : IsReg T.op
  box : InBox T.W T.H T.op
  sol : ∀ x y, hasL T.op x y = true → pA (atV T.W T.H T.F x y) = 255
/-- What a place, a scale, an alpha that are pending are good for. -/
structure GoodP13 (T : Tq) : Prop where
  x : -1048576 ≤ T.ax ∧ T.ax ≤ 1048576
  y : -1048576 ≤ T.ay ∧ T.ay ≤ 1048576
  s : 1 ≤ T.s ∧ T.s ≤ 3
  a : 0 ≤ T.al ∧ T.al ≤ 255
  c : Bd T.cp.a ∧ Bd T.cp.b ∧ Bd T.cp.c ∧ Bd T.cp.d
structure GoodS (n : Nat) (S : Sq) : Prop where
  t : GoodT S.now
  q : GoodP13 S.now
  p : GoodP13 S.p
  w1 : S.so = true → 1 ≤ S.W ∧ S.W ≤ 16
  h1 : S.so = true → 1 ≤ S.H ∧ S.H ≤ 16
  len : S.so = true → S.F.length = S.W * S.H
  may : S.so = true → MayL S.F
  dr : IsReg S.dm
  dn : InR near near S.dm
  dc : -4 ≤ S.dc.a ∧ S.dc.a ≤ 31 ∧ -4 ≤ S.dc.b ∧ S.dc.b ≤ 31 ∧ -4 ≤ S.dc.c ∧ S.dc.c ≤ 31 ∧ -4 ≤ S.dc.d ∧ S.dc.d ≤ 31
  fl : S.fr.length ≤ n
  fi : ∀ x ∈ S.fr, I64 x

theorem firstT_good : GoodT firstT := by
  refine ⟨fun h => (by cases h), fun h => (by cases h), fun h => (by cases h), fun h => (by cases h), fun h => (by cases h), fun _ => ⟨rfl, rfl, rfl, rfl⟩, ⟨[], ⟨Wk.nil, by simp⟩, rfl⟩, fun r hr => (by cases hr), fun x y h => (by cases h)⟩
theorem firstT_goodP : GoodP13 firstT := by
  refine ⟨?_, ?_, ?_, ?_, ?_⟩ <;> simp [firstT, farR, Bd]
theorem firstS_good : GoodS 0 firstS := by
  refine ⟨firstT_good, firstT_goodP, firstT_goodP, fun h => (by cases h), fun h => (by cases h), fun h => (by cases h), fun h => (by cases h), ⟨[], ⟨Wk.nil, by simp⟩, rfl⟩, fun r hr => (by cases hr), ?_, by simp [firstS], fun x hx => (by cases hx)⟩
  simp [firstS]
theorem GoodS.up {n m : Nat} {S : Sq} (h : GoodS n S) (hn : n ≤ m) : GoodS m S := { h with fl := Nat.le_trans h.fl hn }

theorem newF_len (S : Sq) : (newF S).length = S.W * S.H := by unfold newF; rw [upto_len]
theorem baseF_len {n : Nat} {S : Sq} (h : GoodS n S) : (baseF S).length = S.W * S.H := by
  unfold baseF
  split
  · rename_i k
    rw [h.t.len k.1, k.2.1, k.2.2]
  · simp
theorem getD_may {L : List Int} (h : MayL L) (i : Nat) : C32 (L.getD i 0) ∧ mayC (L.getD i 0) = true := by
  rw [List.getD_eq_getElem?_getD]
  cases hk : L[i]? with
  | none => exact ⟨by unfold C32; simp, by decide⟩
  | some c => exact h c (List.mem_of_getElem? hk)
theorem may_zero (n : Nat) : MayL (List.replicate n (0 : Int)) := fun c hc => by
  rw [List.mem_replicate] at hc
  rw [hc.2]
  exact ⟨by unfold C32; simp, by decide⟩
theorem baseF_may {n : Nat} {S : Sq} (h : GoodS n S) : MayL (baseF S) := by
  unfold baseF
  split
  · rename_i k
    exact h.t.may k.1
  · exact may_zero _
theorem newF_may {n : Nat} {S : Sq} (h : GoodS n S) (hs : S.so = true) : MayL (newF S) := fun c hc => by
  unfold newF upto at hc
  obtain ⟨i, _, rfl⟩ := List.mem_map.1 hc
  split
  · exact getD_may (h.may hs) i
  · exact getD_may (baseF_may h) i
end Go.Proofs.YtablogiielclaaaGreat
namespace Go.Proofs.YtablogiielclaaaGreat
open Go.RowKit Go.Sort Go.Deep

theorem At.range {w : World} {b : Nat} {cs : List Value} {t : TypeId} (h : At w b cs.toArray t) (o : Nat) (vs : List Value) (hv : ∀ j v, vs[j]? = some v → cs[o + j]? = some v) : w.rangeAt b o vs := fun j v hj => by
  rw [h.cell (o + j), List.getElem?_toArray]
  exact hv j v hj
theorem Bl.srow {w v : World} (h : Bl w v) {r : Nat} (hr : w.heap.size ≤ r) (cs : Array Value) : Bl w (v.setRow r cs) :=
  h.grown (row := some r) ⟨rfl, rfl, rfl, by simp [World.setRow], fun k _ hne => setRow_other v r k cs (by intro e; exact hne (by rw [e]))⟩ (fun j hj => by cases hj; exact hr)
theorem Bl.st1 {a w : World} (h : Bl a w) {p : Addr} (hk : a.heap.size ≤ p.block) (u : Value) : Bl a (w.setCell p u) :=
  h.grown (row := some p.block) (By.set (p := p) (By.refl w _) u) (fun j hj => by cases hj; exact hk)
theorem Bl.st4 {a w : World} (h : Bl a w) {k : Nat} (hk : a.heap.size ≤ k) (u0 u1 u2 u3 : Value) : Bl a ((((w.setCell ⟨k, 0, none⟩ u0).setCell ⟨k, 1, none⟩ u1).setCell ⟨k, 2, none⟩ u2).setCell ⟨k, 3, none⟩ u3) :=
  (((h.st1 (p := ⟨k, 0, none⟩) hk u0).st1 (p := ⟨k, 1, none⟩) hk u1).st1 (p := ⟨k, 2, none⟩) hk u2).st1 (p := ⟨k, 3, none⟩) hk u3
theorem At.setRow {w : World} {b : Nat} {old : Array Value} {t : TypeId} (h : At w b old t) (cs : Array Value) : At (w.setRow b cs) b cs t := setRow_heap w b old cs t (0, 0) h
/-- A call hands this value back. -/
def RZ (w : World) (v : Value) (e : Ending) (w' : World) : Prop := e = .returned v ∧ Bl w w'

/-- Where the rows of a state of the document's lie. -/
structure Tv where
  AF : Option Addr
  cF : Nat
  AO : Option Addr
  cO : Nat
/-- .. of a surface of the document's. -/
structure Dv where
  n : Tv
  p : Tv
  AF : Option Addr
  cF : Nat
  AD : Option Addr
  cD : Nat
  AR : Option Addr
  cR : Nat
/-- The cells of a state of the document's, and of a surface of the document's. -/
def tC (T : Tq) (v : Tv) : List Value := [.bool T.so, .int .i64 (T.W : Int), .int .i64 (T.H : Int), .slice v.AF T.F.length v.cF, .int .i64 T.ax, .int .i64 T.ay, .int .i64 T.s, .int .i64 T.al, .int .i64 T.cp.a, .int .i64 T.cp.b, .int .i64 T.cp.c, .int .i64 T.cp.d, .slice v.AO T.op.length v.cO, .string ⟨#[]⟩]
def sC (S : Sq) (d : Dv) : List Value := tC S.now d.n ++ (tC S.p d.p ++ [.bool S.so, .int .i64 (S.W : Int), .int .i64 (S.H : Int), .slice d.AF S.F.length d.cF, .slice d.AD S.dm.length d.cD, .int .i64 S.dc.a, .int .i64 S.dc.b, .int .i64 S.dc.c, .int .i64 S.dc.d, .slice d.AR S.fr.length d.cR])
def noT : Tv := ⟨none, 0, none, 0⟩
def noD : Dv := ⟨noT, noT, none, 0, none, 0, none, 0⟩

end Go.Proofs.YtablogiielclaaaGreat
namespace Go.Proofs.YtablogiielclaaaGreat
open Go.RowKit Go.Sort

set_option maxRecDepth 100000 in
set_option maxHeartbeats 1000000 in
theorem sflayer1 (px : Option Addr) (ax ay s al p q r t : Int) (A : Option Addr) (n c : Nat) (ti : Value) (w : World) :
    Calls Tryz.prog 25 #[.agg #[.pointer px, .int .i64 ax, .int .i64 ay, .int .i64 s, .int .i64 al, .int .i64 p, .int .i64 q, .int .i64 r, .int .i64 t, .slice A n c, ti]] w (Rt w (.agg #[.pointer px, .int .i64 ax, .int .i64 ay, .int .i64 s, .int .i64 al, .int .i64 p, .int .i64 q, .int .i64 r, .int .i64 t])) := by
  have g := ((Gr.refl w).alloc (.cells #[.pointer px, .int .i64 ax, .int .i64 ay, .int .i64 s, .int .i64 al, .int .i64 p, .int .i64 q, .int .i64 r, .int .i64 t, .slice A n c, ti] 60)).alloc (.cells #[.pointer px, .int .i64 ax, .int .i64 ay, .int .i64 s, .int .i64 al, .int .i64 p, .int .i64 q, .int .i64 r, .int .i64 t] 65)
  go_enter Tryz.func25, Tryz.ntmps25
  go_wp2
  exact bodyPost_ret (v := .agg #[.pointer px, .int .i64 ax, .int .i64 ay, .int .i64 s, .int .i64 al, .int .i64 p, .int .i64 q, .int .i64 r, .int .i64 t]) (by simp [results, Tryz.results25, go_sem]) rfl ⟨rfl, g⟩
set_option maxRecDepth 100000 in
set_option maxHeartbeats 1000000 in
theorem sfnew1 (w : World) :
    Calls Tryz.prog 14 #[] w (fun e w' => ∃ sb, e = .returned (.pointer (some ⟨sb, 0, none⟩)) ∧ w.heap.size ≤ sb ∧ At w' sb #[.pointer none, .int .i64 0, .int .i64 0, .int .i64 1, .int .i64 255, .int .i64 (-1048576), .int .i64 (-1048576), .int .i64 1048576, .int .i64 1048576, .slice none 0 0, .string ⟨#[]⟩, .pointer none, .int .i64 0, .int .i64 0, .int .i64 1, .int .i64 255, .int .i64 (-1048576), .int .i64 (-1048576), .int .i64 1048576, .int .i64 1048576, .slice none 0 0, .string ⟨#[]⟩, .slice none 0 0, .slice none 0 0] 140 ∧ Bl w w') := by
  go_enter Tryz.func14, Tryz.ntmps14
  go_wp2
  go_ret
  exact ⟨_, rfl, by simp, At.newAt (by simp) _ _, (Bl.refl w).alloc _ |>.alloc _⟩
end Go.Proofs.YtablogiielclaaaGreat
namespace Go.Proofs.YtablogiielclaaaGreat
open Go.ChangeShapes Go.WideShapes Go.ChangeAt Go.RowKit Go.Joins Go.Sort Go.Deep Go.Maps

theorem Mp.kx {X : Nat → Prop} {w w' : World} {b : Nat} {L : List Ik} (h : Mp w b L) (g : Kx X w w') (hx : ¬ X b) : Mp w' b L := by
  have hb := g.block b h.lt hx
  unfold Mp World.ownsMap at *
  rw [hb]; exact h
theorem Pm.kx {X : Nat → Prop} {w w' : World} {b : Nat} {L : List Ik} (h : Pm w b L) (g : Kx X w w') (hx : ¬ X b) : Pm w' b L := by
  have hb := g.block b h.lt hx
  unfold Pm World.ownsMap at *
  rw [hb]; exact h
theorem Tb.kx {X : Nat → Prop} {w w' : World} {a b : Nat} {m : Int} {L : List Ik} (h : Tb w a b m L) (g : Kx X w w') (h1 : ¬ X a) (h2 : ¬ X b) : Tb w' a b m L := ⟨h.hd.kx g h1, h.mp.kx g h2, h.ok⟩
section
variable {w w' : World} {pp nb bb n : Nat} {Q : List Pq} {S : List Bf}
theorem PlR.gby (h : PlR w pp nb bb Q S n) {k : Nat} (g : w.grownBy w' (some k)) (hk : ∀ cs t, ¬ At w k cs t) (h1 : nb ≠ k) (h2 : bb ≠ k) : PlR w' pp nb bb Q S n := by
  obtain ⟨⟨N, M, hs, hN, hM⟩, ok⟩ := h
  refine ⟨⟨N, M, { hs with hd := hs.hd.grown g (fun e => hk _ _ (by rw [← Option.some.inj e]; exact hs.hd)), np := hs.np.by g (fun e => h1 (Option.some.inj e)), bp := hs.bp.by g (fun e => h2 (Option.some.inj e)), bf := fun j s q a1 a2 => ?_ }, hN, hM⟩, ok⟩
  have hb := hs.bf j s q a1 a2
  exact ⟨hb.1.grown g (fun e => hk _ _ (by rw [← Option.some.inj e]; exact hb.1)), hb.2.kept g (fun e => hk _ _ (by rw [← Option.some.inj e]; exact hb.2.hd)) (fun e => hk _ _ (by rw [← Option.some.inj e]; exact hb.2.cs))⟩
theorem PlR.notT (h : PlR w pp nb bb Q S n) {b : Nat} {cs : Array Value} {t : TypeId} (hb : At w b cs t) (t1 : 246 ≠ t) (t2 : 268 ≠ t) (t3 : 52 ≠ t) : ¬ PlX pp nb bb Q b := by
  obtain ⟨⟨N, M, h, _, _⟩, _⟩ := h
  rintro (rfl | rfl | rfl | ⟨q, hq, hk⟩)
  · exact (h.hd.neP hb t1) rfl
  · exact (h.np.ne hb) rfl
  · exact (h.bp.ne hb) rfl
  · obtain ⟨j, hj⟩ := List.getElem?_of_mem hq
    obtain ⟨s, hs⟩ := list_at (l := S) (k := j) (by rw [← h.ln]; exact (List.getElem?_eq_some_iff.1 hj).1)
    have hc := h.bf j s q hs hj
    rcases hk with rfl | rfl
    · exact (hc.1.neP hb t2) rfl
    · exact (hc.2.cs.neP hb t3) rfl
end
/-- Where a client's parts lie. -/
structure Cv where
  ia : Nat
  ib : Nat
  pp : Nat
  nb : Nat
  bb : Nat
  Q : List Pq
  wm : Nat
/-- The blocks that are written to where buffers and surfaces are made. -/
def ClX (v : Cv) (k : Nat) : Prop := k = v.ib ∨ k = v.wm ∨ PlX v.pp v.nb v.bb v.Q k
/-- A client: its ids, its buffers, the surfaces' map. -/
structure ClR (w : World) (cb : Nat) (v : Cv) (L : List Ik) (S : List Bf) (n : Nat) (M : List Ik) : Prop where
  hd : At w cb #[.pointer (some ⟨v.ia, 0, none⟩), .pointer (some ⟨v.pp, 0, none⟩), .map (some v.wm)] 188
  tb : Tb w v.ia v.ib 32 L
  pl : PlR w v.pp v.nb v.bb v.Q S n
  wd : Pm w v.wm M
  ne : v.ib ≠ v.wm
  nx : ∀ k, PlX v.pp v.nb v.bb v.Q k → k ≠ v.ib ∧ k ≠ v.wm
section
variable {w w' : World} {cb n : Nat} {v : Cv} {L : List Ik} {S : List Bf} {M : List Ik}
theorem ClR.bl (h : ClR w cb v L S n M) (g : Bl w w') : ClR w' cb v L S n M := { h with hd := h.hd.bl g, tb := h.tb.bl g, pl := h.pl.bl g, wd := h.wd.bl g }
theorem Mp.no {b : Nat} {L : List Ik} (h : Mp w b L) : ∀ cs t, ¬ At w b cs t := fun _ _ k => (h.ne k) rfl
theorem Pm.no {b : Nat} {L : List Ik} (h : Pm w b L) : ∀ cs t, ¬ At w b cs t := fun _ _ k => (h.ne k) rfl
theorem ClR.xlt (h : ClR w cb v L S n M) {k : Nat} (hk : ClX v k) : k < w.heap.size := by
  rcases hk with rfl | rfl | hk
  · exact h.tb.mp.lt
  · exact h.wd.lt
  · exact h.pl.xlt hk
/-- The ids have turned. -/
theorem ClR.ids (h : ClR w cb v L S n M) (g : w.grownBy w' (some v.ib)) {L' : List Ik} (t : Tb w' v.ia v.ib 32 L') : ClR w' cb v L' S n M :=
  { h with hd := h.hd.grown g (fun e => h.tb.mp.no _ _ (by rw [← Option.some.inj e]; exact h.hd)), tb := t, pl := h.pl.gby g h.tb.mp.no (h.nx v.nb (.inr (.inl rfl))).1 (h.nx v.bb (.inr (.inr (.inl rfl)))).1, wd := h.wd.by g (fun e => h.ne (Option.some.inj e).symm) }
/-- The surfaces have turned. -/
theorem ClR.wins (h : ClR w cb v L S n M) (g : w.grownBy w' (some v.wm)) {M' : List Ik} (t : Pm w' v.wm M') : ClR w' cb v L S n M' :=
  { h with hd := h.hd.grown g (fun e => h.wd.no _ _ (by rw [← Option.some.inj e]; exact h.hd)), tb := h.tb.by g (fun e => h.wd.no _ _ (by rw [← Option.some.inj e]; exact h.tb.hd)) (fun e => h.ne (Option.some.inj e)), pl := h.pl.gby g h.wd.no (h.nx v.nb (.inr (.inl rfl))).2 (h.nx v.bb (.inr (.inr (.inl rfl)))).2, wd := t }
/-- The pool has turned. -/
theorem ClR.pool (h : ClR w cb v L S n M) (g : Kx (PlX v.pp v.nb v.bb v.Q) w w') {Q' : List Pq} {S' : List Bf} {m : Nat} (p : PlR w' v.pp v.nb v.bb Q' S' m) (hQ : ∀ j, PlX v.pp v.nb v.bb Q' j → PlX v.pp v.nb v.bb v.Q j ∨ w.heap.size ≤ j) : ClR w' cb { v with Q := Q' } L S' m M :=
  { hd := h.hd.kx g (h.pl.notT h.hd (by decide) (by decide) (by decide)), tb := h.tb.kx g (h.pl.notT h.tb.hd (by decide) (by decide) (by decide)) (fun k => (h.nx _ k).1 rfl), pl := p, wd := h.wd.kx g (fun k => (h.nx _ k).2 rfl), ne := h.ne,
    nx := fun k hk => by
      rcases hQ k hk with hk | hk
      · exact h.nx k hk
      · have h1 := h.tb.mp.lt
        have h2 := h.wd.lt
        exact ⟨by dsimp only; omega, by dsimp only; omega⟩ }
end
theorem clnew1 (w : World) : Calls Tryz.prog 33 #[] w fun e w' => ∃ cb v, e = .returned (.pointer (some ⟨cb, 0, none⟩)) ∧ ClR w' cb v [] [] 0 [] ∧ Bl w w' ∧ w.heap.size ≤ cb ∧ ∀ k, ClX v k → w.heap.size ≤ k := by
  have hmm := @run_makeMap Tryz.prog
  go_enter Tryz.func33, Tryz.ntmps33
  go_wp2_with fail
  refine (idNew1 32 _).mono ?_
  rintro e w1 ⟨ia, ib, rfl, hia, hib, tb, g1⟩
  go_wp2_with fail
  refine (plNew1 _).mono ?_
  rintro e w2 ⟨pp, nb, bb, rfl, P, g2, hx⟩
  have hmo : mostN 32 = 32 := by decide
  rw [hmo] at tb
  go_wp2
  go_ret
  have g3 : Bl w2 (w2.alloc (.map #[] 0)) := (Bl.refl w2).alloc _
  have hm : Pm (w2.alloc (.map #[] 0)) w2.heap.size [] := World.ownsMap_made w2 _ _ _
  have g4 := fun o => (Bl.refl (w2.alloc (.map #[] 0))).alloc o
  have s1 := g1.size
  have s2 := g2.size
  have l1 := tb.mp.lt
  refine ⟨_, ⟨ia, ib, pp, nb, bb, [], w2.heap.size⟩, rfl, ⟨At.newAt (by simp) _ _, ((tb.bl g2).bl g3).bl (g4 _), (P.bl g3).bl (g4 _), hm.bl (g4 _), by dsimp only; omega, fun k hk => ?_⟩, ((g1.trans g2).trans g3).trans (g4 _), by first | omega | (simp; omega), ?_⟩
  · have h1 := hx k hk
    have h2 := P.xlt hk
    exact ⟨by dsimp only; omega, by dsimp only; omega⟩
  · rintro k (rfl | rfl | hk)
    · exact hib
    · dsimp only; omega
    · have := hx k hk
      omega
section
variable {w : World} {cb n : Nat} {v : Cv} {L : List Ik} {S : List Bf} {M : List Ik}
set_option maxHeartbeats 1000000 in
/-- A buffer's id is refused. -/
theorem clbuf0 (h : ClR w cb v L S n M) (op i a b r0 r1 r2 r3 : Int) (s : ByteArray) (D : Option Addr) (m c : Nat) (hi : I64 i) (e0 : Int) (he : addIE 32 L i 1 = e0) (hne : e0 ≠ 0) :
    Calls Tryz.prog 169 #[.pointer (some ⟨cb, 0, none⟩), .agg #[.int .i64 op, .int .i64 i, .int .i64 a, .int .i64 b, .int .i64 r0, .int .i64 r1, .int .i64 r2, .int .i64 r3, .string s, .slice D m c]] w fun e w' => e = .returned (.tuple #[.slice none 0 0, .slice none 0 0, .int .i64 e0]) ∧ ClR w' cb v L S n M ∧ Kx (ClX v) w w' := by
  have hb1 : (e0 != 0) = true := by simpa using hne
  have hL : addIL 32 L i 1 = L := by unfold addIL; rw [if_neg (by rw [he]; exact hne)]
  go_enter Tryz.func169, Tryz.ntmps169
  go_upto_region 1 with fail
  generalize hW : World.alloc w _ = W
  have R1 : At W w.heap.size #[.int .i64 op, .int .i64 i, .int .i64 a, .int .i64 b, .int .i64 r0, .int .i64 r1, .int .i64 r2, .int .i64 r3, .string s, .slice D m c] 101 := by rw [← hW]; exact At.new w _ _
  have G : Bl w W := by rw [← hW]; exact (Bl.refl w).alloc _
  have hr : w.heap.size < W.heap.size := R1.lt
  clear hW
  have hC := h.bl G
  have cA := Lib.hid (fun (V : World) (g : Bl W V) => (show Calls Tryz.prog 223 #[.pointer (some ⟨v.ia, 0, none⟩), .int .i64 i, .int .i64 1] V (fun e w' => e = .returned (.int .i64 e0) ∧ Tb w' v.ia v.ib 32 L ∧ V.grownBy w' (some v.ib)) from by
    have := idAdd1 (hC.tb.bl g) i 1 hi (by unfold I64; omega)
    rw [he, hL] at this
    exact this))
  have SK := Lib.hid (fun (V : World) (g : W.grownBy V (some v.ib)) => (show V.cell? ⟨cb, 0, none⟩ = some (.pointer (some ⟨v.ia, 0, none⟩)) ∧ V.cell? ⟨w.heap.size, 1, none⟩ = some (.int .i64 i) ∧ W.grownBy V (some v.ib) from
    ⟨(hC.hd.grown g (fun e => hC.tb.mp.no _ _ (by rw [← Option.some.inj e]; exact hC.hd))).cell 0, (R1.grown g (fun e => hC.tb.mp.no _ _ (by rw [← Option.some.inj e]; exact R1))).cell 1, g⟩))
  clear hL he
  go_region_held3 (fun V => V.cell? ⟨cb, 0, none⟩ = some (.pointer (some ⟨v.ia, 0, none⟩)) ∧ V.cell? ⟨w.heap.size, 1, none⟩ = some (.int .i64 i) ∧ W.grownBy V (some v.ib)) ((refine SK.out _ ?_; repeat (first | with_reducible assumption | with_reducible exact by_refl _ _ | with_reducible exact By.refl _ _ | with_reducible exact By.trans (by_drew (by_refl _ _)) gA | with_reducible exact By.trans (by_refl _ _) gA | with_reducible apply by_drew))) ((first | (go_at_call 223; (refine (cA.out _ (by first | with_reducible exact Bl.refl _ | with_reducible exact (Bl.refl _).drew)).mono ?_); rintro e V7 ⟨rfl, tA, gA⟩) | fail))
  clear SK cA
  go_wp2
  go_ret3
  exact ⟨rfl, hC.ids (By.trans (by_drew (by_refl _ _)) gA) tA, (Kx.bl G).then (Kx.by (By.trans (by_drew (by_refl _ _)) gA) (.inl rfl))⟩
end

end Go.Proofs.YtablogiielclaaaGreat
namespace Go.Proofs.YtablogiielclaaaGreat
open Go.RowKit Go.Sort Go.Deep

set_option maxRecDepth 100000 in
set_option maxHeartbeats 2000000 in
theorem sfboxG (px : Option Addr) (ax ay s al p q r t : Int) (A : Option Addr) (n c : Nat) (ti : Value) (w : World) (b : Bool) (q1 q2 q3 q4 : Int)
    (cM : ∀ w', Bl w w' → Calls Tryz.prog 83 #[.agg #[.pointer px, .int .i64 ax, .int .i64 ay, .int .i64 s, .int .i64 al, .int .i64 p, .int .i64 q, .int .i64 r, .int .i64 t]] w' (Rt w' (.bool b)))
    (cB : b = true → ∀ w', Bl w w' → Calls Tryz.prog 94 #[.agg #[.pointer px, .int .i64 ax, .int .i64 ay, .int .i64 s, .int .i64 al, .int .i64 p, .int .i64 q, .int .i64 r, .int .i64 t]] w' (Rt w' (.agg #[.int .i64 q1, .int .i64 q2, .int .i64 q3, .int .i64 q4])))
    (h0 : b = false → q1 = 0 ∧ q2 = 0 ∧ q3 = 0 ∧ q4 = 0) :
    Calls Tryz.prog 105 #[.agg #[.pointer px, .int .i64 ax, .int .i64 ay, .int .i64 s, .int .i64 al, .int .i64 p, .int .i64 q, .int .i64 r, .int .i64 t, .slice A n c, ti]] w (RZ w (.agg #[.int .i64 q1, .int .i64 q2, .int .i64 q3, .int .i64 q4])) := by
  have G0 := ((Bl.refl w).alloc (.cells #[.pointer px, .int .i64 ax, .int .i64 ay, .int .i64 s, .int .i64 al, .int .i64 p, .int .i64 q, .int .i64 r, .int .i64 t, .slice A n c, ti] 60)).alloc (.cells #[.int .i64 0, .int .i64 0, .int .i64 0, .int .i64 0] 31)
  have R0 := At.newAt (w := w.alloc (.cells #[.pointer px, .int .i64 ax, .int .i64 ay, .int .i64 s, .int .i64 al, .int .i64 p, .int .i64 q, .int .i64 r, .int .i64 t, .slice A n c, ti] 60)) (n := w.heap.size + 1) (by simp) #[.int .i64 0, .int .i64 0, .int .i64 0, .int .i64 0] 31
  go_enter Tryz.func105, Tryz.ntmps105
  go_wp2_with fail
  refine (sflayer1 px ax ay s al p q r t A n c ti _).mono ?_
  rintro e v1 ⟨rfl, g1⟩
  have G1 := G0.trans g1.bl
  have L1 := At.new v1 #[.pointer px, .int .i64 ax, .int .i64 ay, .int .i64 s, .int .i64 al, .int .i64 p, .int .i64 q, .int .i64 r, .int .i64 t] 65
  have R1 := (R0.gr g1).alloc (.cells #[.pointer px, .int .i64 ax, .int .i64 ay, .int .i64 s, .int .i64 al, .int .i64 p, .int .i64 q, .int .i64 r, .int .i64 t] 65)
  have G2 := G1.alloc (.cells #[.pointer px, .int .i64 ax, .int .i64 ay, .int .i64 s, .int .i64 al, .int .i64 p, .int .i64 q, .int .i64 r, .int .i64 t] 65)
  go_wp2_with fail
  refine (cM _ G2).mono ?_
  rintro e v2 ⟨rfl, g2⟩
  have L2 := L1.gr g2
  have R2 := R1.gr g2
  have G3 := G2.trans g2.bl
  clear G0 R0 L1 R1 G1 G2 g1 g2 cM
  have l0 := L2.cell 0; have l1 := L2.cell 1; have l2 := L2.cell 2; have l3 := L2.cell 3; have l4 := L2.cell 4; have l5 := L2.cell 5; have l6 := L2.cell 6; have l7 := L2.cell 7; have l8 := L2.cell 8
  obtain ⟨k0, k1, k2, k3⟩ := cells4 R2
  obtain ⟨f0, f1, f2, f3⟩ := free4 R2
  cases b with
  | false =>
    obtain ⟨rfl, rfl, rfl, rfl⟩ := h0 rfl
    go_wp2
    have k := R2.put4 (.int .i64 0) (.int .i64 0) (.int .i64 0) (.int .i64 0)
    have G4 := G3.st4 (k := w.heap.size + 1) (by omega) (.int .i64 0) (.int .i64 0) (.int .i64 0) (.int .i64 0)
    generalize (((v2.setCell ⟨w.heap.size + 1, 0, none⟩ (.int .i64 0)).setCell ⟨w.heap.size + 1, 1, none⟩ (.int .i64 0)).setCell ⟨w.heap.size + 1, 2, none⟩ (.int .i64 0)).setCell ⟨w.heap.size + 1, 3, none⟩ (.int .i64 0) = V4 at *
    exact bodyPost_ret (results_cell_row rfl _ _ (w.heap.size + 1) _ _ (0, 0) _ rfl k Tryz.underlying31 rfl (by kernel_rfl)) rfl ⟨rfl, G4⟩
  | true =>
    go_wp2_with fail
    refine (cB (by first | trivial | rfl) _ G3).mono ?_
    rintro e v3 ⟨rfl, g3⟩
    have R3 := R2.gr g3
    have G5 := G3.trans g3.bl
    clear k0 k1 k2 k3 f0 f1 f2 f3
    obtain ⟨k0, k1, k2, k3⟩ := cells4 R3
    obtain ⟨f0, f1, f2, f3⟩ := free4 R3
    go_wp2
    have k := R3.put4 (.int .i64 q1) (.int .i64 q2) (.int .i64 q3) (.int .i64 q4)
    have G4 := G5.st4 (k := w.heap.size + 1) (by omega) (.int .i64 q1) (.int .i64 q2) (.int .i64 q3) (.int .i64 q4)
    generalize (((v3.setCell ⟨w.heap.size + 1, 0, none⟩ (.int .i64 q1)).setCell ⟨w.heap.size + 1, 1, none⟩ (.int .i64 q2)).setCell ⟨w.heap.size + 1, 2, none⟩ (.int .i64 q3)).setCell ⟨w.heap.size + 1, 3, none⟩ (.int .i64 q4) = V4 at *
    exact bodyPost_ret (results_cell_row rfl _ _ (w.heap.size + 1) _ _ (0, 0) _ rfl k Tryz.underlying31 rfl (by kernel_rfl)) rfl ⟨rfl, G4⟩

end Go.Proofs.YtablogiielclaaaGreat
namespace Go.Proofs.YtablogiielclaaaGreat
open Go.RowKit Go.Sort

attribute [local go_sem ↓] run_min2 run_max2

/-- The cells of a list of colors, and those behind them. -/
def cX (L : List Int) (Sp : List Value) : Array Value := (L.map (Value.int .u32) ++ Sp).toArray
theorem cX_list (L : List Int) (Sp : List Value) : (cX L Sp).toList = L.map (Value.int .u32) ++ Sp := by simp [cX]
theorem ImgX.setRow {w : World} {pm pc W H : Nat} {F vs : List Int} {Sp : List Value} (h : ImgX w pm pc W H F Sp) (k : Nat) (hk : k + vs.length ≤ F.length) :
    ImgX (w.setRow pc ((cX F Sp).toList.take k ++ vs.map (Value.int .u32) ++ (cX F Sp).toList.drop (k + vs.length)).toArray) pm pc W H (putRun F k vs) Sp := by
  have hl : (putRun F k vs).length = F.length := putRun_len _ _ _
  have he : ((cX F Sp).toList.take k ++ vs.map (Value.int .u32) ++ (cX F Sp).toList.drop (k + vs.length)).toArray = cX (putRun F k vs) Sp := by
    rw [cX_list, putRun_splice hk, List.take_append_of_le_length (by simp; omega), List.drop_append_of_le_length (by simpa using hk)]
    simp [cX, List.map_take, List.map_drop]
  rw [he]
  refine { h with hd := ?_, cs := ?_, len := hl.trans h.len }
  · rw [hl]; exact h.hd.same (setRow_other _ _ _ _ h.ne)
  · exact setRow_heap w pc _ _ _ _ h.cs
theorem copy_runX {w : World} {pm pc W H : Nat} {F : List Int} {Sp : List Value} (h : ImgX w pm pc W H F Sp) (pc2 k k2 dc sc : Nat) (_L2 vs : List Int) (hR : ∀ j x, vs[j]? = some x → w.cell? ⟨pc2, k2 + j, none⟩ = some (.int .u32 x)) (hk : k + vs.length ≤ F.length) :
    (Builtin.copy_ #[25, 25] 3 #[.slice (some ⟨pc, k, none⟩) vs.length dc, .slice (some ⟨pc2, k2, none⟩) vs.length sc]).run Tryz.prog w =
      .ok (goInt vs.length) (w.setRow pc ((cX F Sp).toList.take k ++ vs.map (Value.int .u32) ++ (cX F Sp).toList.drop (k + vs.length)).toArray) := by
  have := run_copy_row (P := Tryz.prog) w 25 25 3 52 pc k vs.length dc ⟨pc2, k2, none⟩ vs.length sc (cX F Sp) 52 (vs.map (Value.int .u32)) Tryz.underlying25 (by kernel_rfl) h.cs (by simp)
    (rowN_add (k := .u32) hR) (by simp [cX]; omega) (one_int _ _)
  simpa using this

set_option maxRecDepth 100000 in
set_option maxHeartbeats 4000000 in
theorem copyX {pm pc W H pm2 pc2 W2 H2 : Nat} {L L2 : List Int} {Sp : List Value} (w : World) (hI : ImgX w pm pc W H L Sp) (hJ : Img w pm2 pc2 W2 H2 L2) (hne : pc ≠ pm2 ∧ pc ≠ pc2) (a b c d dx dy : Int) (hdx : -1048576 ≤ dx ∧ dx ≤ 1048576) (hdy : -1048576 ≤ dy ∧ dy ≤ 1048576) (x0 y0 x1 y1 u0 v0 : Nat) (R1 : Rc)
    (hc1 : cutR a b c d 0 0 W2 H2 = R1) (hc2 : cutR R1.a R1.b R1.c R1.d (-dx) (-dy) (W - dx) (H - dy) = ⟨x0, y0, x1, y1⟩) (hx0 : x0 ≤ x1) (hx : y0 < y1 → x0 < x1) (hy : y0 ≤ y1) (hw : x1 ≤ W2) (hh : y1 ≤ H2)
    (hu : y0 < y1 → (u0 : Int) = x0 + dx ∧ (v0 : Int) = y0 + dy ∧ u0 + (x1 - x0) ≤ W ∧ v0 + (y1 - y0) ≤ H) :
    Calls Tryz.prog 144 #[.pointer (some ⟨pm, 0, none⟩), .pointer (some ⟨pm2, 0, none⟩), .agg #[.int .i64 a, .int .i64 b, .int .i64 c, .int .i64 d], .int .i64 dx, .int .i64 dy] w
      (fun e w' => ∃ ts : List Nat, e = .returned (.int .i64 (areaI x0 y0 x1 y1)) ∧ w.grownBy w' (some pc) ∧ ImgX w' pm pc W H (cpAll W W2 u0 v0 x0 y0 (x1 - x0) L2 L ts) Sp ∧ (∀ t, t ∈ ts ↔ t < y1 - y0)) := by
  obtain ⟨hdx1, hdx2⟩ := hdx
  obtain ⟨hdy1, hdy2⟩ := hdy
  obtain ⟨ra, rb, rc, rd⟩ := R1
  dsimp only at hc2
  have cn := fun (n : Int) (w : World) (h0 : -1048576 ≤ n) (h1 : n ≤ 1048576) => near1 n w h0 h1
  have cc1 := fun w => cut1 a b c d 0 0 W2 H2 w
  have cc2 := fun w => cut1 ra rb rc rd (-dx) (-dy) (W - dx) (H - dy) w
  rw [hc1] at cc1
  rw [hc2] at cc2
  dsimp only at cc1 cc2
  clear hc1 hc2
  have hWb := hI.w2
  have hHb := hI.h2
  have mixed : Tryz.prog.follows .mixedOrders = true := by kernel_rfl
  have hmay : mayB x0 y0 x1 y1 = true := by have := hJ.w2; have := hJ.h2; simp [mayB]; omega
  have car := fun w => area1 x0 y0 x1 y1 w hmay
  clear hmay
  have G0 := (Gr.refl w).alloc (.cells #[.int .i64 a, .int .i64 b, .int .i64 c, .int .i64 d] 31)
  have E0 := At.new w #[.int .i64 a, .int .i64 b, .int .i64 c, .int .i64 d] 31
  have hu' := Lib.hid hu
  clear hu
  go_enter Tryz.func144, Tryz.ntmps144
  go_wp2_with fail
  refine (near1 _ _ hdx1 hdx2).mono ?_
  rintro e w1 ⟨rfl, rfl⟩
  go_wp2_with fail
  refine (near1 _ _ hdy1 hdy2).mono ?_
  rintro e w1 ⟨rfl, rfl⟩
  have I1 := hI.gr G0
  clear cn
  go_wp2
  obtain ⟨V1, hV1⟩ : ∃ V1, V1 = w.alloc (.cells #[.int .i64 a, .int .i64 b, .int .i64 c, .int .i64 d] 31) := ⟨_, rfl⟩
  have hz1 : V1.heap.size = w.heap.size + 1 := by rw [hV1]; simp
  rw [← hV1] at I1 G0 E0 ⊢
  clear hV1
  have SK : ∀ V, Gr V1 V → (V.cell? ⟨pm, 0, none⟩ = some (.int .i64 W) ∧ V.cell? ⟨pm, 1, none⟩ = some (.int .i64 H) ∧ Gr V1 V) := fun V g => ⟨(I1.gr g).c0, (I1.gr g).c1, g⟩
  have e1 : IntKind.i64.wrap (-dx) = -dx := IntWalk.i64_in _ (by omega)
  have e2 : IntKind.i64.wrap (-dy) = -dy := IntWalk.i64_in _ (by omega)
  have e3 : IntKind.i64.wrap ((W : Int) - dx) = (W : Int) - dx := IntWalk.i64_in _ (by omega)
  have e4 : IntKind.i64.wrap ((H : Int) - dy) = (H : Int) - dy := IntWalk.i64_in _ (by omega)
  go_region_held3 (fun V => V.cell? ⟨pm, 0, none⟩ = some (.int .i64 W) ∧ V.cell? ⟨pm, 1, none⟩ = some (.int .i64 H) ∧ Gr V1 V) ((refine SK _ ?_; first | assumption | exact Gr.refl _ | exact (Gr.refl _).drew | exact (And.right (And.right (by assumption))) | exact Gr.drew (And.right (And.right (by assumption))) | exact Gr.alloc (And.right (And.right (by assumption))) _ | exact Gr.alloc (Gr.refl _).drew _ | exact Gr.alloc (Gr.refl _) _))
    (fail)
  clear SK e1 e2 e3 e4
  have K2 := (At.newAt (w := V1) hz1 #[.int .i64 (-dx), .int .i64 (-dy), .int .i64 (W - dx), .int .i64 (H - dy)] 31).drew
  have E2 := (E0.alloc (.cells #[.int .i64 (-dx), .int .i64 (-dy), .int .i64 (W - dx), .int .i64 (H - dy)] 31)).drew
  have G2 := (G0.alloc (.cells #[.int .i64 (-dx), .int .i64 (-dy), .int .i64 (W - dx), .int .i64 (H - dy)] 31)).drew
  generalize (V1.alloc (.cells #[.int .i64 (-dx), .int .i64 (-dy), .int .i64 (W - dx), .int .i64 (H - dy)] 31)).drew = V2 at K2 E2 G2 ⊢
  have I2 := hI.gr G2
  have J2 := hJ.gr G2
  clear I1 G0 E0 hz1
  go_wp2
  rename_i K hK
  have rest : ∀ V : World, At V w.heap.size #[.int .i64 x0, .int .i64 y0, .int .i64 x1, .int .i64 y1] 31 → Gr w V →
      K { tmps := #[.pointer (some ⟨pm, 0, none⟩), .pointer (some ⟨pm2, 0, none⟩), .agg #[.int .i64 a, .int .i64 b, .int .i64 c, .int .i64 d], .int .i64 dx, .int .i64 dy, undef, undef, .pointer (some ⟨w.heap.size, 0, none⟩), undef, undef, .int .i64 0,
        .pointer (some ⟨w.heap.size + 1, 0, none⟩), undef, undef, .int .i64 dx, .int .i64 dx, .int .i64 dy, .int .i64 dy, .int .i64 dx, .int .i64 (-dx), .int .i64 dy, .int .i64 (-dy), .pointer (some ⟨pm, 0, none⟩), .pointer (some ⟨pm, 0, none⟩), .pointer (some ⟨pm, 0, none⟩), .int .i64 W, .int .i64 dx,
        .int .i64 (W - dx), .pointer (some ⟨pm, 0, none⟩), .pointer (some ⟨pm, 0, none⟩), .pointer (some ⟨pm, 1, none⟩), .int .i64 H, .int .i64 dy, .int .i64 (H - dy), .agg #[.int .i64 (-dx), .int .i64 (-dy), .int .i64 (W - dx), .int .i64 (H - dy)],
        .agg #[.int .i64 a, .int .i64 b, .int .i64 c, .int .i64 d], .pointer (some ⟨pm2, 0, none⟩), .agg #[.int .i64 0, .int .i64 0, .int .i64 W2, .int .i64 H2], .agg #[.int .i64 ra, .int .i64 rb, .int .i64 rc, .int .i64 rd],
        .agg #[.int .i64 (-dx), .int .i64 (-dy), .int .i64 (W - dx), .int .i64 (H - dy)], .agg #[.int .i64 x0, .int .i64 y0, .int .i64 x1, .int .i64 y1], undef, undef, undef, undef, undef, undef, undef, undef, undef, undef, undef, undef, undef, undef, undef, undef, undef, undef, undef, undef, undef, undef, undef, undef, undef, undef, undef, undef, undef, undef, undef, undef, undef, undef, undef, undef, undef, undef, undef, undef, undef, undef, undef], defers := [] } V := by
    intro V E G
    refine hK _ _ ?_
    clear hK I2 J2 K2 E2 G2 cc1 cc2 mixed
    have I := hI.gr G
    have J := hJ.gr G
    have hlm := hI.hd.lt; have hlc := hI.cs.lt; have hlm2 := hJ.hd.lt; have hlc2 := hJ.cs.lt
    have hJw := hJ.w2; have hJh := hJ.h2
    obtain ⟨p0, p1, p2, p3⟩ := cells4 E
    have hcy : (y1 : Int) - (y0 : Int) = ((y1 - y0 : Nat) : Int) := by omega
    obtain ⟨h, hh'⟩ : ∃ h, h = y1 - y0 := ⟨_, rfl⟩
    rw [← hh'] at hcy
    have hh2 := Lib.hid hh'
    clear hh'
    go_wp2_with fail
    go_loopw [46] (fun i wr => ∃ (k : Nat) (ts : List Nat), k ≤ h ∧ i = .int .i64 k ∧ ImgX wr pm pc W H (cpAll W W2 u0 v0 x0 y0 (x1 - x0) L2 L ts) Sp ∧ Img wr pm2 pc2 W2 H2 L2 ∧ At wr w.heap.size #[.int .i64 x0, .int .i64 y0, .int .i64 x1, .int .i64 y1] 31 ∧ w.grownBy wr (some pc) ∧ (∀ t, t ∈ ts ↔ t < h ∧ ((0 < dy ∧ h - k ≤ t) ∨ (dy ≤ 0 ∧ t < k))))
      (fun i _ => h - (intOf i).toNat)
    case atStart => exact ⟨0, [], Nat.zero_le _, rfl, I, J, E, G.by _, by intro t; simp; omega⟩
    case round =>
      obtain ⟨k, ts, hk, rfl, Ik, Jk, Ek, Gk, hts⟩ := hrel
      have hts' := Lib.hid hts
      clear hts
      by_cases hlt : k < h
      · obtain ⟨u1e, v1e, hub, hvb⟩ := hu'.out (by have := hh2.out; omega)
        have hxx := hx (by have := hh2.out; omega)
        obtain ⟨t, ht⟩ : ∃ t, t = if 0 < dy then h - 1 - k else k := ⟨_, rfl⟩
        have htk : t < h ∧ ((0 < dy ∧ t = h - 1 - k) ∨ (dy ≤ 0 ∧ t = k)) := by
          by_cases hd : 0 < dy
          · rw [if_pos hd] at ht; omega
          · rw [if_neg hd] at ht; omega
        have hhe := hh2.out
        obtain ⟨yy, hyy⟩ : ∃ yy, yy = y0 + t := ⟨_, rfl⟩
        obtain ⟨vv, hvv⟩ : ∃ vv, vv = v0 + t := ⟨_, rfl⟩
        obtain ⟨m, hm⟩ : ∃ m, m = x1 - x0 := ⟨_, rfl⟩
        obtain ⟨ue, hue⟩ : ∃ ue, ue = u0 + m := ⟨_, rfl⟩
        have cs1 := fun (V : World) (hD : At V pm #[.int .i64 W, .int .i64 H, .slice (some ⟨pc, 0, none⟩) (cpAll W W2 u0 v0 x0 y0 (x1 - x0) L2 L ts).length ((cpAll W W2 u0 v0 x0 y0 (x1 - x0) L2 L ts).length + Sp.length)] 173) => span0 V hD (Nat.le_add_right _ _) Ik.len hWb hHb vv u0 ue (by omega) (by omega) (by omega)
        have cs2 := fun (V : World) (hD : At V pm2 #[.int .i64 W2, .int .i64 H2, .slice (some ⟨pc2, 0, none⟩) L2.length L2.length] 173) => span0 V hD (Nat.le_refl _) Jk.len hJw hJh yy x0 x1 (by omega) (by omega) hw
        rw [show ue - u0 = m by omega] at cs1
        rw [← hm] at cs2
        have f1 : IntKind.i64.wrap ((yy : Int) + dy) = (vv : Int) := by rw [show (yy : Int) + dy = (vv : Int) by omega]; exact IntWalk.i64_in _ (by omega)
        have f2 : IntKind.i64.wrap ((x0 : Int) + dx) = (u0 : Int) := by rw [← u1e]; exact IntWalk.i64_in _ (by omega)
        have f3 : IntKind.i64.wrap ((x1 : Int) + dx) = (ue : Int) := by rw [show (x1 : Int) + dx = (ue : Int) by omega]; exact IntWalk.i64_in _ (by omega)
        have hsrcL : yy * W2 + x0 + m ≤ L2.length := by
          have := row_of (show x1 - 1 < W2 by omega) (show yy < H2 by omega)
          rw [← Jk.len] at this; omega
        have hdstL : vv * W + u0 + m ≤ (cpAll W W2 u0 v0 x0 y0 (x1 - x0) L2 L ts).length := by
          have := row_of (show u0 + m - 1 < W by omega) (show vv < H by omega)
          rw [← Ik.len] at this; omega
        have hvl : ((L2.drop (yy * W2 + x0)).take m).length = m := by rw [List.length_take, List.length_drop]; omega
        have hnext : putRun (cpAll W W2 u0 v0 x0 y0 (x1 - x0) L2 L ts) (vv * W + u0) ((L2.drop (yy * W2 + x0)).take m) = cpAll W W2 u0 v0 x0 y0 (x1 - x0) L2 L (ts ++ [t]) := by
          rw [cpAll_snoc, cpRow, hvv, hyy, hm]
        have hcp := fun (V : World) (dc sc : Nat) (g : Gr wr V) => copy_runX (Ik.gr g) pc2 (vv * W + u0) (yy * W2 + x0) dc sc L2 ((L2.drop (yy * W2 + x0)).take m)
          (fun j x hj => (Jk.gr g).at (by rw [List.getElem?_take] at hj; split at hj; rw [List.getElem?_drop] at hj; exact hj; cases hj)) (by rw [hvl]; exact hdstL)
        have hset := fun (V : World) (g : Gr wr V) => (Ik.gr g).setRow (vs := (L2.drop (yy * W2 + x0)).take m) (vv * W + u0) (by rw [hvl]; exact hdstL)
        rw [hnext] at hset
        rw [hvl] at hcp hset
        have htn : ∀ s, s ∈ ts ++ [t] ↔ s < h ∧ ((0 < dy ∧ h - (k + 1) ≤ s) ∨ (dy ≤ 0 ∧ s < k + 1)) := by
          intro s
          rw [List.mem_append, hts'.out, List.mem_singleton]
          rcases htk with ⟨_, ⟨_, _⟩ | ⟨_, _⟩⟩ <;> omega
        have htn' := Lib.hid htn
        have hdirect : (0 < dy ∧ (y1 : Int) - 1 - (k : Int) = (yy : Int)) ∨ (dy ≤ 0 ∧ (y0 : Int) + (k : Int) = (yy : Int)) := by omega
        have hIk := Ik.hd
        have hJk := Jk.hd
        clear htn hnext hsrcL hdstL hvl hyy hvv ht htk hhe u1e v1e hub hvb hue
        have hm' := Lib.hid hm
        clear hm
        generalize ((cX (cpAll W W2 u0 v0 x0 y0 (x1 - x0) L2 L ts) Sp).toList.take (vv * W + u0) ++ ((L2.drop (yy * W2 + x0)).take m).map (Value.int .u32) ++ (cX (cpAll W W2 u0 v0 x0 y0 (x1 - x0) L2 L ts) Sp).toList.drop (vv * W + u0 + m)).toArray = CS at hcp hset
        generalize (cpAll W W2 u0 v0 x0 y0 (x1 - x0) L2 L ts).length = nF at cs1 hIk
        generalize vv * W + u0 = kd at *
        generalize yy * W2 + x0 = ks at *
        generalize L2.length = nL at cs2 hJk
        obtain ⟨p0, p1, p2, p3⟩ := cells4 Ek
        have SK : ∀ V, wr.grownBy V (some pc) → (V.cell? ⟨w.heap.size, 0, none⟩ = some (.int .i64 x0) ∧ V.cell? ⟨w.heap.size, 1, none⟩ = some (.int .i64 y0) ∧ V.cell? ⟨w.heap.size, 2, none⟩ = some (.int .i64 x1) ∧ V.cell? ⟨w.heap.size, 3, none⟩ = some (.int .i64 y1) ∧ wr.grownBy V (some pc)) := fun V g => by
          obtain ⟨p0, p1, p2, p3⟩ := cells4 (Ek.kept g (by simp; omega))
          exact ⟨p0, p1, p2, p3, g⟩
        rcases hdirect with ⟨hd, hyy⟩ | ⟨hd, hyy⟩
        all_goals
          go_wp2
          go_region_held3 (fun V => V.cell? ⟨w.heap.size, 0, none⟩ = some (.int .i64 x0) ∧ V.cell? ⟨w.heap.size, 1, none⟩ = some (.int .i64 y0) ∧ V.cell? ⟨w.heap.size, 2, none⟩ = some (.int .i64 x1) ∧ V.cell? ⟨w.heap.size, 3, none⟩ = some (.int .i64 y1) ∧ wr.grownBy V (some pc)) ((refine SK _ ?_; first | assumption | exact by_refl _ _ | exact by_drew (by_refl _ _) | exact by_drewN (by_refl _ _) _ | exact by_drew (by_setRow (by_drewN (by_refl _ _) _) _) | exact by_setRow (by_drewN (by_refl _ _) _) _ | exact (And.right (And.right (And.right (And.right (by assumption))))) | exact by_drew (And.right (And.right (And.right (And.right (by assumption))))) | exact by_drewN (And.right (And.right (And.right (And.right (by assumption))))) _ | exact by_setRow (And.right (And.right (And.right (And.right (by assumption))))) _))
            ((first
              | (go_at_call 157; (with_reducible refine (cs1 _ (hIk.gr (by repeat (first | with_reducible exact Gr.refl _ | with_reducible apply Gr.drewN | with_reducible apply Gr.drew)))).mono ?_); rintro e a1 ⟨rfl, nq1, rfl⟩)
              | (go_at_call 157; (with_reducible refine (cs2 _ (hJk.gr (by repeat (first | with_reducible exact Gr.refl _ | with_reducible apply Gr.drewN | with_reducible apply Gr.drew)))).mono ?_); rintro e a2 ⟨rfl, nq2, rfl⟩)
              | (refine step_copy_run (by rfl) (.tmp 72) (.tmp 79) _ _ (by rfl) _ _ (by rfl) (by rfl) (hcp _ _ _ (by repeat (first | with_reducible exact Gr.refl _ | with_reducible apply Gr.drewN | with_reducible apply Gr.drew))) ?_)))
        all_goals
          have gX : Gr wr (wr.drewN (1 + nq1 + nq2)) := (Gr.refl wr).drewN _
          have bX := by_setRow (gX.by (some pc)) CS
          have IX := hset _ gX
          have JX := Jk.kept bX (by simp; omega) (by simp; omega)
          have EX := Ek.kept bX (by simp; omega)
          have GX := by_trans Gk bX
          generalize (wr.drewN (1 + nq1 + nq2)).setRow pc CS = X at IX JX EX GX ⊢
          clear bX gX hset hcp cs1 cs2 hIk hJk SK f1 f2 f3 p0 p1 p2 p3 hyy
          go_wp2
          go_roundw
          case rel => exact ⟨k + 1, ts ++ [t], by omega, by simp, IX, JX, EX, GX, htn'.out⟩
          case measure => simp [intOf]; omega
      · obtain rfl : k = h := by omega
        obtain ⟨p0, p1, p2, p3⟩ := cells4 Ek
        go_wp2_with fail
        refine (car _).mono ?_
        rintro e w6 ⟨rfl, g6⟩
        go_wp2
        go_ret
        exact ⟨ts, rfl, by_gr Gk g6, Ik.gr g6, fun t => by rw [hts'.out]; omega⟩
  obtain ⟨p0, p1, p2, p3⟩ := cells4 E2
  obtain ⟨q0, q1, q2, q3⟩ := cells4 K2
  go_region_with (first | (go_at_call 100; refine (box1 _ (J2.gr (Gr.refl _).drew)).mono ?_; rintro e a1 ⟨rfl, g1⟩; have B1 : Gr V2 a1 := (Gr.refl _).drew.trans g1; obtain ⟨p0, p1, p2, p3⟩ := cells4 (E2.gr B1); obtain ⟨q0, q1, q2, q3⟩ := cells4 (K2.gr B1)) | (go_at_call 102; (with_reducible refine (cc1 _).mono ?_); rintro e a2 ⟨rfl, g2⟩; have B2 : Gr V2 a2 := Gr.trans B1 g2; obtain ⟨q0, q1, q2, q3⟩ := cells4 (K2.gr B2)) | (go_at_call 102; (with_reducible refine (cc2 _).mono ?_); rintro e a3 ⟨rfl, g3⟩; have B3 : Gr V2 a3 := Gr.trans B2 g3; obtain ⟨p0, p1, p2, p3⟩ := cells4 (E2.gr B3); obtain ⟨f0, f1, f2, f3⟩ := free4 (E2.gr B3)))
  all_goals
    exact rest _ ((E2.gr B3).put4 (.int .i64 x0) (.int .i64 y0) (.int .i64 x1) (.int .i64 y1)) (((((G2.trans B3).setCell (p := ⟨w.heap.size, 0, none⟩) (Nat.le_refl _) _).setCell (p := ⟨w.heap.size, 1, none⟩) (Nat.le_refl _) _).setCell (p := ⟨w.heap.size, 2, none⟩) (Nat.le_refl _) _).setCell (p := ⟨w.heap.size, 3, none⟩) (Nat.le_refl _) _)

end Go.Proofs.YtablogiielclaaaGreat
namespace Go.Proofs.YtablogiielclaaaGreat
open Go.RowKit Go.Sort

theorem plq_rgn {cp : Rc} {W H : Nat} {s ax ay : Int} {LW M : List Rc} (hs : 1 ≤ s) (h : PlQ cp W H s ax ay LW M) : Rgn M (fun x y => lyHas cp W H s ax ay x y && hasL LW ((x - ax) / s) ((y - ay) / s)) := by
  obtain ⟨R, hQ, rfl⟩ := h
  refine ⟨reg_af hs ax ay hQ.reg, fun x y => ?_⟩
  rw [afL_has hs, own_in hQ]
  unfold lyHas
  simp only [Bool.and_assoc]
theorem soq_rgn {W H : Nat} {F : List Int} {LW M : List Rc} (h : SoQ ⟨0, 0, W, H⟩ W H F 1 0 0 255 LW M) : Rgn M (fun x y => hasB 0 0 W H x y && (hasL LW x y && pA (atV W H F x y) == 255)) := by
  obtain ⟨R, S, T, hQ, hS, hT, rfl⟩ := h.2 rfl
  refine ⟨reg_af (by omega) 0 0 hT.reg, fun x y => ?_⟩
  rw [afL_has (by omega), hT.has, Int.sub_zero, Int.sub_zero, Int.ediv_one, Int.ediv_one, hS, own_in hQ]
  dsimp only
  generalize hasB 0 0 (W : Int) (H : Int) x y = b
  generalize (pA (atV W H F x y) == 255) = d
  cases b <;> cases d <;> simp
/-- The colors ahead of what is copied, with the points of R from L. -/
def cpR (W : Nat) (L B : List Int) (R : List Rc) : List Int := upto (fun i => if hasL R (i % W : Nat) (i / W : Nat) = true then L.getD i 0 else B.getD i 0) B.length
theorem cpR_nil (W : Nat) (L B : List Int) : cpR W L B [] = B := by
  apply List.ext_getElem?
  intro i
  unfold cpR
  rw [upto_get]
  by_cases hi : i < B.length
  · rw [if_pos hi]
    simp [hasL, List.getD_eq_getElem?_getD, List.getElem?_eq_getElem hi]
  · rw [if_neg hi, List.getElem?_eq_none (by omega)]
theorem cpR_len (W : Nat) (L B : List Int) (R : List Rc) : (cpR W L B R).length = B.length := by unfold cpR; rw [upto_len]
/-- One rectangle more is copied. -/
theorem cpR_more {W H : Nat} {L B : List Int} {R : List Rc} {r : Rc} {x0 y0 x1 y1 : Nat} {ts : List Nat} (hW : 1 ≤ W) (hL : L.length = W * H) (hB : B.length = W * H) (hr : r = ⟨x0, y0, x1, y1⟩) (hx : x0 < x1) (hw : x1 ≤ W) (hy : y0 < y1) (hh : y1 ≤ H) (hts : ∀ t, t ∈ ts ↔ t < y1 - y0) :
    cpAll W W x0 y0 x0 y0 (x1 - x0) L (cpR W L B R) ts = cpR W L B (R ++ [r]) := by
  apply List.ext_getElem?
  intro i
  have hs : ∀ t, t < y1 - y0 → (y0 + t) * W + x0 + (x1 - x0) ≤ L.length := fun t ht => by
    have := row_of (show x1 - 1 < W by omega) (show y0 + t < H by omega)
    rw [hL]; omega
  rw [cpAll_get hW (by omega) hs ts _ i (fun t ht => (hts t).1 ht), cpR_len]
  unfold cpR
  rw [upto_get, upto_get]
  by_cases hi : i < B.length
  · rw [if_pos hi, if_pos hi]
    have hd := Nat.div_add_mod i W
    have hhas : hasL (R ++ [r]) (i % W : Nat) (i / W : Nat) = (hasL R (i % W : Nat) (i / W : Nat) || decide (x0 ≤ i % W ∧ i % W < x1 ∧ y0 ≤ i / W ∧ i / W < y1)) := by
      unfold hasL
      rw [List.any_append]
      congr 1
      rw [hr]
      simp only [List.any_cons, List.any_nil, Bool.or_false]
      unfold hasB
      (try dsimp only)
      generalize i % W = p
      generalize i / W = q
      rw [decide_eq_decide]
      omega
    rw [hhas]
    by_cases k : x0 ≤ i % W ∧ i % W < x1 ∧ y0 ≤ i / W ∧ i / W < y1
    · rw [decide_eq_true k, Bool.or_true, if_pos (by refine ⟨hi, k.1, by omega, k.2.2.1, (hts _).2 (by omega)⟩), if_pos rfl]
      have e : (y0 + (i / W - y0)) * W + x0 + (i % W - x0) = i := by
        rw [show y0 + (i / W - y0) = i / W by omega, Nat.mul_comm]
        omega
      rw [e, List.getD_eq_getElem?_getD, List.getElem?_eq_getElem (by rw [hL, ← hB]; exact hi)]
      rfl
    · rw [decide_eq_false k, Bool.or_false, if_neg (by rintro ⟨_, a, b, c, d⟩; have := (hts _).1 d; exact k (by omega))]
  · rw [if_neg (by omega), if_neg hi, if_neg hi]

end Go.Proofs.YtablogiielclaaaGreat
namespace Go.Proofs.YtablogiielclaaaGreat
open Go.RowKit Go.Sort Go.Deep

/-- A pointer that is an image of these sides and colors, or nil. -/
structure StQ (w : World) (px : Option Addr) (T : Tq) : Prop where
  im : T.so = true → ∃ pm pc Sp, px = some ⟨pm, 0, none⟩ ∧ ImgX w pm pc T.W T.H T.F Sp
  no : T.so = false → px = none
theorem StQ.bl {w w' : World} {px : Option Addr} {T : Tq} (h : StQ w px T) (g : Bl w w') : StQ w' px T :=
  ⟨fun hs => by obtain ⟨pm, pc, Sp, e, hI⟩ := h.im hs; exact ⟨pm, pc, Sp, e, hI.bl g⟩, h.no⟩
theorem fill_all {W H : Nat} {L : List Int} (hW : 1 ≤ W) (hl : L.length = W * H) : fillR W 0 W 0 L (List.range' 0 (H - 0)) = List.replicate (W * H) 0 := by
  rw [fill_eq (H := H) (p := fun i j => decide (0 ≤ i ∧ i < W ∧ 0 ≤ j ∧ j < H)) hl hW (Nat.zero_le _) (Nat.le_refl _) (Nat.zero_le _) (fun i j _ _ => rfl)]
  apply List.ext_getElem?
  intro i
  rw [upto_get, hl]
  by_cases hi : i < W * H
  · have h1 := Nat.mod_lt i hW
    have h2 := Nat.div_lt_of_lt_mul hi
    rw [if_pos hi, if_pos (by simp; exact ⟨h1, h2⟩), List.getElem?_replicate, if_pos hi]
  · rw [if_neg hi, List.getElem?_eq_none (by simp; omega)]

/-- What ahead hands back: an image of its own. -/
def AhQ (w : World) (W H : Nat) (B : List Int) (e : Ending) (w' : World) : Prop := ∃ pm pc Sp, e = .returned (.pointer (some ⟨pm, 0, none⟩)) ∧ ImgX w' pm pc W H B Sp ∧ w.heap.size ≤ pm ∧ w.heap.size ≤ pc ∧ Bl w w'
set_option maxRecDepth 100000 in
set_option maxHeartbeats 2000000 in
theorem sfaheadN {pm pc W H : Nat} {L : List Int} (px : Option Addr) (w : World) (hI : Img w pm pc W H L)
    (hp : px = none ∨ ∃ (p2 c2 W2 H2 : Nat) (L2 : List Int) (Sp : List Value), px = some ⟨p2, 0, none⟩ ∧ ImgX w p2 c2 W2 H2 L2 Sp ∧ ¬ (W2 = W ∧ H2 = H)) :
    Calls Tryz.prog 143 #[.pointer px, .pointer (some ⟨pm, 0, none⟩)] w (AhQ w W H (List.replicate (W * H) 0)) := by
  have fin : ∀ V, Bl w V → Calls Tryz.prog 91 #[.pointer (some ⟨pm, 0, none⟩)] V (fun e w' => ∃ (p2 c2 : Nat) (Y : List Value), e = .returned (.pointer (some ⟨p2, 0, none⟩)) ∧ ImgX w' p2 c2 W H L Y ∧ V.heap.size ≤ p2 ∧ V.heap.size ≤ c2 ∧ Bl V w') := fun V g => iclone1 V (hI.x.bl g)
  have hw1 := hI.w1
  have hlen := hI.len
  have cF := fun (V : World) (p2 c2 : Nat) (Y : List Value) (h : ImgX V p2 c2 W H L Y) => fillX V h 0 0 W H 0 (by unfold C32; omega) (by decide) 0 W 0 H (by
    have := hI.h1
    unfold cutR
    rw [if_neg (by simp [emptyB]; omega)]
    simp) (Nat.zero_le _) (fun _ => by omega) (Nat.le_refl _) (Nat.zero_le _) (Nat.le_refl _)
  rw [fill_all hw1 hlen] at cF
  have cX := fun (V : World) (p2 c2 : Nat) (Y : List Value) (h : ImgX V p2 c2 W H L Y) => boxX V h
  have cB := fun (V : World) (g : Bl w V) => box1 V (hI.bl g)
  have areaV := areaI 0 0 W H
  clear hlen
  rcases hp with rfl | ⟨p2, c2, W2, H2, L2, Sp, rfl, hJ, hne⟩
  · go_enter Tryz.func143, Tryz.ntmps143
    go_wp2_with fail
    refine (fin _ (Bl.refl _)).mono ?_
    rintro e v1 ⟨p3, c3, Y, rfl, I3, h1, h2, g1⟩
    go_wp2_with fail
    refine (cX _ _ _ _ I3).mono ?_
    rintro e v2 ⟨rfl, g2⟩
    go_wp2_with fail
    refine (cF _ _ _ _ (I3.gr g2)).mono ?_
    rintro e v3 ⟨rfl, g3, I4⟩
    go_wp2
    go_ret
    exact ⟨p3, c3, Y, rfl, I4, h1, h2, (g1.gr g2).grown g3 (fun j hj => by cases hj; exact h2)⟩
  · have cJ := fun (V : World) (g : Bl w V) => boxX V (hJ.bl g)
    have hq : (Value.agg #[.int .i64 0, .int .i64 0, .int .i64 W2, .int .i64 H2] = Value.agg #[.int .i64 0, .int .i64 0, .int .i64 W, .int .i64 H]) = False := by simp; omega
    go_enter Tryz.func143, Tryz.ntmps143
    go_wp2_with fail
    refine (cJ _ (Bl.refl _)).mono ?_
    rintro e v1 ⟨rfl, g1⟩
    go_wp2_with fail
    refine (cB _ g1.bl).mono ?_
    rintro e v2 ⟨rfl, g2⟩
    have G2 := g1.trans g2
    have hn : (¬ (W2 : Int) = (W : Int)) ∨ (W2 = W ∧ ¬ (H2 : Int) = (H : Int)) := by omega
    clear hne hq
    rcases hn with hn | ⟨rfl, hn⟩
    all_goals
      go_wp2_with fail
      refine (fin _ G2.bl).mono ?_
      rintro e v1 ⟨p3, c3, Y, rfl, I3, h1, h2, g3⟩
      go_wp2_with fail
      refine (cX _ _ _ _ I3).mono ?_
      rintro e v4 ⟨rfl, g4⟩
      go_wp2_with fail
      refine (cF _ _ _ _ (I3.gr g4)).mono ?_
      rintro e v5 ⟨rfl, g5, I4⟩
      have hs := G2.size
      go_wp2
      go_ret
      exact ⟨p3, c3, Y, rfl, I4, by omega, by omega, ((G2.bl.trans g3).gr g4).grown g5 (fun j hj => by cases hj; omega)⟩
set_option maxRecDepth 100000 in
set_option maxHeartbeats 2000000 in
theorem sfaheadE {pm pc W H p2 c2 : Nat} {L L2 : List Int} {Sp : List Value} (w : World) (hI : Img w pm pc W H L) (hJ : ImgX w p2 c2 W H L2 Sp) :
    Calls Tryz.prog 143 #[.pointer (some ⟨p2, 0, none⟩), .pointer (some ⟨pm, 0, none⟩)] w (AhQ w W H L2) := by
  have cJ := fun (V : World) (g : Bl w V) => boxX V (hJ.bl g)
  have cB := fun (V : World) (g : Bl w V) => box1 V (hI.bl g)
  have cC := fun (V : World) (g : Bl w V) => iclone1 V (hJ.bl g)
  go_enter Tryz.func143, Tryz.ntmps143
  go_wp2_with fail
  refine (cJ _ (Bl.refl _)).mono ?_
  rintro e v1 ⟨rfl, g1⟩
  go_wp2_with fail
  refine (cB _ g1.bl).mono ?_
  rintro e v2 ⟨rfl, g2⟩
  have G2 := g1.trans g2
  go_wp2_with fail
  refine (cC _ G2.bl).mono ?_
  rintro e v3 ⟨p3, c3, Y, rfl, I3, h1, h2, g3⟩
  have hs := G2.size
  go_wp2
  go_ret
  exact ⟨p3, c3, Y, rfl, I3, by omega, by omega, G2.bl.trans g3⟩

end Go.Proofs.YtablogiielclaaaGreat
