/-
  What is proved: what the document's own 'Small' hands back: rectangles near 0. an argument that is a row of rectangles reads as a list of them. No conditions. what the document's own regions, and Same, hand back. plain facts on how many points a region has; what Area, and the document's own, and Covers, hand back. what region.Has hands back. what Scale hands back. what the document's Scale hands back. what Hull (the code's and the document's) hands back of a row of rectangles. what region.Move, region.Scale, and the document's, hand back. a region that is moved, or scaled, is a region; areas of scaled ones.
-/
import Derived.Test.YtablogiielclaaaGreatZz7
import Derived.Test.YtablogiielclaaaGreatZz6
import Derived.Test.YtablogiielclaaaGreatZz1
import Derived.Carry
import Derived.Deep.Slices
import Derived.Deep.Fields
import Derived.Lib.Hide
import Derived.LoopTactic
import Derived.OwnWalk
namespace Go.Proofs.YtablogiielclaaaGreat
open Go.RowKit Go.Sort

def smRc (r : Rc) : Rc := smallR r.a r.b r.c r.d
def I64r (L : List Rc) : Prop := ∀ r ∈ L, I64 r.a ∧ I64 r.b ∧ I64 r.c ∧ I64 r.d
/-- The ints from -4 to 31. -/
def near : List Int := (List.range 36).map fun (i : Nat) => (i : Int) - 4
theorem near_mem (x : Int) : x ∈ near ↔ -4 ≤ x ∧ x ≤ 31 := by
  unfold near
  rw [List.mem_map]
  constructor
  · rintro ⟨i, hi, rfl⟩; rw [List.mem_range] at hi; omega
  · intro h; exact ⟨(x + 4).toNat, by rw [List.mem_range]; omega, by omega⟩
theorem grid_near : Grid near near := ⟨by simp [near], by simp [near], fun x hx => by rw [near_mem] at hx; unfold I64; omega⟩
theorem small_near (L : List Rc) : InNe near near (L.map smRc) := by
  intro r hr _
  rw [List.mem_map] at hr
  obtain ⟨s, _, rfl⟩ := hr
  obtain ⟨h1, h2, h3, h4, h5, h6, h7, h8⟩ := small_bd s.a s.b s.c s.d
  unfold smRc
  rw [near_mem, near_mem, near_mem, near_mem]
  omega

set_option maxHeartbeats 8000000 in
theorem refSmall1 (A : Option Addr) (c : Nat) (L : List Rc) (M : Nat) (w : World) (hA : Rs w A L) (hi : I64r L) (hl : L.length ≤ 9223372036854775807) (hM : M ≤ 8) :
    Calls Tryz.prog 53 #[.slice A L.length c, .int .i64 M] w (RR w (fun R => R = (L.take M).map smRc)) := by
  obtain ⟨n, hn⟩ : ∃ n, n = L.length := ⟨_, rfl⟩
  rw [← hn] at hl ⊢
  replace hn := Lib.hid hn
  go_enter Tryz.func53, Tryz.ntmps53
  go_wp2
  go_loopw [5, 6] (fun v i wr => ∃ (k : Nat) (A' : Option Addr) (c' : Nat) (O : List Rc), k ≤ n ∧ k ≤ M ∧ v = .slice A' O.length c' ∧ i = .int .i64 k ∧ Hid (O = (L.take k).map smRc) ∧ O.length ≤ 8 ∧ OwR wr w.heap.size A' c' O ∧ Bl w wr) (fun _ i _ => n - (intOf i).toNat)
  case atStart => exact ⟨0, none, 0, [], Nat.zero_le _, Nat.zero_le _, rfl, rfl, Lib.hid rfl, by simp, OwR.nil _ _, Bl.refl _⟩
  case round =>
    obtain ⟨k, A', c', O, hk, hkM, rfl, rfl, hO, hO8, own, G⟩ := hrel
    have szo := G.size
    by_cases hlt : k < n
    · by_cases hltM : k < M
      · obtain ⟨⟨ra, rb, rc, rd⟩, hr⟩ := list_at (show k < L.length by rw [← hn.out]; exact hlt)
        obtain ⟨b, off, rfl, hrow⟩ := hA.opened (by have := hn.out; omega)
        obtain ⟨e1, e2, e3, e4⟩ := (hrow.bl G) k _ hr
        dsimp only at e1 e2 e3 e4
        obtain ⟨i1, i2, i3, i4⟩ := hi _ (List.mem_of_getElem? hr)
        have c1 := fun w => small1 ra rb rc rd w i1 i2 i3 i4
        have hm : Hid ((L.take (k + 1)).map smRc = O ++ [smallR ra rb rc rd]) := Lib.hid (by rw [take_more hr, List.map_append, hO.out]; rfl)
        have hO7 : O.length ≤ k := by rw [hO.out, List.length_map, List.length_take]; omega
        clear hr
        go_wp2_with fail
        refine (c1 _).mono ?_
        rintro e W1 ⟨rfl, g1⟩
        have own2 := own.bl g1.bl
        have G2 := G.gr g1
        have sz2 := G2.size
        clear e1 e2 e3 e4 g1 i1 i2 i3 i4
        go_wp2_with (at_builtin; refine wp_app_r rfl (.tmp 18) (.tmp 24) rfl A' c' O rfl w.heap.size (own2.bl ((Bl.refl W1).alloc _)) W1.heap.size (smallR ra rb rc rd) 1 rfl (At.new W1 _ _) (by omega) (by simp; omega) ?_; intro A3 c3 w3 own5 ap3)
        go_roundw
        case rel => exact ⟨k + 1, A3, c3, O ++ [smallR ra rb rc rd], by omega, by omega, by simp, by go_num, Lib.hid hm.out.symm, by simp; omega, own5, ap3.bl (G2.alloc _) (own2.bl ((Bl.refl W1).alloc _)).lies (Nat.le_refl _)⟩
        case measure => simp [intOf]; omega
      · obtain rfl : k = M := by omega
        go_wp2
        go_ret
        exact ⟨A', c', O, rfl, own, hO.out, G⟩
    · have hkn : k = n := by omega
      have fin : Hid (O = (L.take M).map smRc) := Lib.hid (by rw [hO.out, List.take_of_length_le (by have := hn.out; omega), List.take_of_length_le (l := L) (by have := hn.out; omega)])
      clear hkn
      by_cases hltM : k < M
      all_goals
        go_wp2
        go_ret
        exact ⟨A', c', O, rfl, own, fin.out, G⟩

/-- The document's example. -/
def exL : List Rc := [⟨0, 0, 2, 2⟩, ⟨2, 0, 4, 2⟩]
theorem ex_of {X Y : List Int} {R : List Rc} (h : OfQ X Y exL R) : R = [⟨0, 0, 4, 2⟩] := by
  refine reg_ext h.reg (one_reg (by decide)) fun x y => ?_
  rw [← hasL_iff, ← hasL_iff, h.has]
  simp [exL, hasL, hasB]
  omega

theorem At.rowR {w : World} {g : Nat} {cs : Array Value} {t : TypeId} {L : List Rc} (h : At w g cs t) (hc : cs.toList = cR L) : RowR w g 0 L := fun k r hk => by
  have q := fun j (hj : j < 4) => (h.cell (k * 4 + j)).trans ((Array.getElem?_toList).symm.trans ((congrArg (·[k * 4 + j]?) hc).trans (cR_get L k r j hk hj)))
  refine ⟨?_, ?_, ?_, ?_⟩
  · rw [Nat.zero_add]; exact q 0 (by omega)
  · rw [Nat.zero_add]; exact q 1 (by omega)
  · rw [Nat.zero_add]; exact q 2 (by omega)
  · rw [Nat.zero_add]; exact q 3 (by omega)

def LivesQ (w : World) (e : Ending) (w' : World) : Prop := e = .returned (.bool true) ∧ Bl w w'
end Go.Proofs.YtablogiielclaaaGreat
namespace Go.Proofs.YtablogiielclaaaGreat
open Go.ChangeShapes Go.WideShapes Go.ChangeAt Go.RowKit Go.Joins Go.Sort Go.Deep

instance : Inhabited Rc := ⟨⟨0, 0, 0, 0⟩⟩
theorem cellsInt : Tryz.prog.cellsOf 3 = 1 := by kernel_rfl

section
variable {H : Type} {enc : TypeId × Value → H} {w : World} {base : Nat} {spare : Nat → Bool} {held : Bool}
set_option maxRecDepth 100000 in
/-- A rectangle's cells, as they read. -/
theorem rect_cells {n : Nat} {cs : List Value} {x : DataW H × List MemPlace} (h : DataW.trod enc Tryz.prog w base spare held n 31 cs = some x) :
    ∃ r : Rc, cs = [.int .i64 r.a, .int .i64 r.b, .int .i64 r.c, .int .i64 r.d] ∧ I64 r.a ∧ I64 r.b ∧ I64 r.c ∧ I64 r.d := by
  obtain ⟨y0, y1, y2, y3, m, _, hl, h0, h1, h2, h3⟩ := trod_struct4 Tryz.underlying31 h
  rw [cellsRect] at hl
  match cs, hl with
  | [v0, v1, v2, v3], _ =>
    obtain ⟨a, e0, _, wa⟩ := DataW.trod_int Tryz.underlying3 h0
    obtain ⟨b, e1, _, wb⟩ := DataW.trod_int Tryz.underlying3 h1
    obtain ⟨c, e2, _, wc⟩ := DataW.trod_int Tryz.underlying3 h2
    obtain ⟨d, e3, _, wd⟩ := DataW.trod_int Tryz.underlying3 h3
    simp [cellsInt] at e0 e1 e2 e3
    subst e0 e1 e2 e3
    exact ⟨⟨a, b, c, d⟩, rfl, I64.of_wf wa, I64.of_wf wb, I64.of_wf wc, I64.of_wf wd⟩

set_option maxRecDepth 100000 in
/-- The argument: a row of rectangles that came in. -/
theorem open_rects {v : Value} {dd : DataW H} {p : List MemPlace} {b0 : Nat} {r : Reach} (hv : Value.okWide Tryz.prog w r b0 32 v) (h : DataW.Trod enc Tryz.prog w base spare held 32 v dd p) :
    ∃ (A : Option Addr) (cap : Nat) (L : List Rc), v = .slice A L.length cap ∧ L.length ≤ cap ∧ cap ≤ maxLen ∧ Rs w A L ∧ I64r L := by
  obtain ⟨a0, len0, cap0, rfl⟩ := okWide_slice Tryz.underlying32 hv
  obtain ⟨fuel, hf⟩ := h
  rcases open_slice Tryz.underlying32 hf with ⟨hc, _⟩ | ⟨a, len, cap, m, n, D, Pl, hc, _, hl, hm, hmm, _, hx⟩
  · simp [Value.cells] at hc
    obtain ⟨rfl, rfl, rfl⟩ := hc
    exact ⟨none, 0, [], rfl, Nat.zero_le _, Nat.zero_le _, .inl rfl, by intro r hr; simp at hr⟩
  · simp [Value.cells] at hc
    obtain ⟨rfl, rfl, rfl⟩ := hc
    by_cases hz : len0 = 0
    · subst hz; exact ⟨_, _, [], rfl, Nat.zero_le _, hm, .inl rfl, by intro r hr; simp at hr⟩
    · have hlm : len0 ≤ m := by rw [hmm]; split <;> omega
      have each : ∀ i, i < m → ∃ q : Rc, (∀ j, j < 4 → w.cell? (a.add (i * 4 + j)) = [Value.int .i64 q.a, .int .i64 q.b, .int .i64 q.c, .int .i64 q.d][j]?) ∧ I64 q.a ∧ I64 q.b ∧ I64 q.c ∧ I64 q.d := by
        intro i hi
        obtain ⟨cs', h1, h2⟩ := hx i hi
        rw [cellsRect] at h1
        obtain ⟨_, hlen, hcell⟩ := World.cells?_some h1
        obtain ⟨q, rfl, hq⟩ := rect_cells h2
        refine ⟨q, fun j hj => ?_, hq⟩
        rw [← add_add]
        exact hcell j hj
      obtain ⟨f, hfq⟩ := choose_lt each
      have h0 := (hfq 0 (by omega)).1 0 (by omega)
      obtain ⟨b, off, spot⟩ := a
      cases spot with
      | some t =>
        simp [Addr.add, World.cell?] at h0
        exfalso
        split at h0 <;> cases h0
      | none =>
        have ad : ∀ i, (⟨b, off, none⟩ : Addr).add i = ⟨b, off + i, none⟩ := fun i => by unfold Addr.add; split <;> simp_all
        refine ⟨some ⟨b, off, none⟩, cap0, (List.range len0).map f, by simp, by simpa using hl, hm, .inr ⟨b, off, rfl, fun k r hk => ?_⟩, fun r hr => ?_⟩
        · have hkl := get_lt hk
          simp at hkl
          simp [hkl] at hk
          subst hk
          have hk' := (hfq k (by omega)).1
          simp only [ad] at hk'
          exact ⟨hk' 0 (by omega), hk' 1 (by omega), hk' 2 (by omega), hk' 3 (by omega)⟩
        · rw [List.mem_map] at hr
          obtain ⟨k, hk, rfl⟩ := hr
          rw [List.mem_range] at hk
          exact (hfq k (by omega)).2
end

end Go.Proofs.YtablogiielclaaaGreat
namespace Go.Proofs.YtablogiielclaaaGreat
open Go.RowKit Go.Sort

theorem kpN0 : kpN 0 = fun a b => a || b := rfl
theorem kpN1 : kpN 1 = fun a b => a && b := rfl
theorem kpN2 : kpN 2 = fun a b => a && !b := rfl
theorem kpN3 : kpN 3 = fun a b => a != b := rfl
theorem refunion1 (A B : Option Addr) (c d : Nat) (a b : List Rc) (X Y : List Int) (w : World) (hA : Rs w A a) (hB : Rs w B b) (la : a.length ≤ 100000) (lb : b.length ≤ 100000) (hX : Grid X Y) (ia : InNe X Y a) (ib : InNe X Y b) :
    Calls Tryz.prog 167 #[.slice A a.length c, .slice B b.length d] w (RR w (MQ X Y a b (kpN 0))) := by
  go_enter Tryz.func167, Tryz.ntmps167
  go_wp2_with fail
  refine (refmerge1 A B c d a b 0 X Y w hA hB la lb (by omega) hX (fun r hr he => by rcases List.mem_append.1 hr with h | h; exact ia r h he; exact ib r h he)).mono ?_
  rintro e W ⟨A1, c1, L, rfl, o1, q1, g1⟩
  go_wp2
  go_ret
  exact ⟨A1, c1, L, rfl, o1, q1, g1⟩
theorem refcutRR1 (A B : Option Addr) (c d : Nat) (a b : List Rc) (X Y : List Int) (w : World) (hA : Rs w A a) (hB : Rs w B b) (la : a.length ≤ 100000) (lb : b.length ≤ 100000) (hX : Grid X Y) (ia : InNe X Y a) (ib : InNe X Y b) :
    Calls Tryz.prog 77 #[.slice A a.length c, .slice B b.length d] w (RR w (MQ X Y a b (kpN 1))) := by
  go_enter Tryz.func77, Tryz.ntmps77
  go_wp2_with fail
  refine (refmerge1 A B c d a b 1 X Y w hA hB la lb (by omega) hX (fun r hr he => by rcases List.mem_append.1 hr with h | h; exact ia r h he; exact ib r h he)).mono ?_
  rintro e W ⟨A1, c1, L, rfl, o1, q1, g1⟩
  go_wp2
  go_ret
  exact ⟨A1, c1, L, rfl, o1, q1, g1⟩
theorem refof1 (A : Option Addr) (c : Nat) (a : List Rc) (X Y : List Int) (w : World) (hA : Rs w A a) (la : a.length ≤ 100000) (hX : Grid X Y) (ia : InNe X Y a) :
    Calls Tryz.prog 80 #[.slice A a.length c] w (RR w (OfQ X Y a)) := by
  go_enter Tryz.func80, Tryz.ntmps80
  go_wp2_with fail
  refine (refmerge1 A none c 0 a [] 0 X Y w hA (.inl rfl) la (by simp) (by omega) hX (fun r hr he => by rw [List.append_nil] at hr; exact ia r hr he)).mono ?_
  rintro e W ⟨A1, c1, L, rfl, o1, q1, g1⟩
  have fin : Hid (OfQ X Y a L) := Lib.hid ⟨q1.reg, q1.inr, fun x y => by rw [q1.has, kpN0]; show (hasL a x y || hasL [] x y) = _; simp [hasL]⟩
  go_wp2
  go_ret
  exact ⟨A1, c1, L, rfl, o1, fin.out, g1⟩
/-- A region near 0, made of any rectangles. -/
structure GdQ (L R : List Rc) : Prop where
  reg : IsReg R
  inr : InR near near R
  has : ∀ x y, hasL R x y = hasL ((L.take 8).map smRc) x y
theorem refsame1t (A B : Option Addr) (c d : Nat) (L M : List Rc) (w : World) (hA : Rs w A L) (hB : Rs w B M) (hl : L.length ≤ 9000000000000000000) (h : L = M) :
    Calls Tryz.prog 56 #[.slice A L.length c, .slice B M.length d] w (Rt w (.bool true)) := by
  have := refSame1 A B c d L M w hA hB hl (by rw [← h]; exact hl)
  rw [decide_eq_true h] at this
  exact this
theorem reg_len {X Y : List Int} {R : List Rc} (h : IsReg R) (hi : InR X Y R) (hX : Grid X Y) : R.length ≤ 1000000 := by
  obtain ⟨gb, eb⟩ := h.bands
  have h1 := rects_len gb.toWk (InR.bands gb (by rw [eb]; exact hi))
  rw [eb] at h1
  exact Nat.le_trans h1 (Nat.le_trans (Nat.mul_le_mul hX.y hX.x) (by omega))
/-- Two regions with the same points. -/
theorem reg_same {L M : List Rc} (hL : IsReg L) (hM : IsReg M) (h : ∀ x y, hasL L x y = hasL M x y) : L = M :=
  reg_ext hL hM fun x y => by rw [← hasL_iff, ← hasL_iff, h]

end Go.Proofs.YtablogiielclaaaGreat
namespace Go.Proofs.YtablogiielclaaaGreat
open Go.RowKit Go.Sort

def b2i (b : Bool) : Int := if b = true then 1 else 0
def cnt (P : Int → Int) (lo : Int) : Nat → Int
  | 0 => 0
  | n + 1 => cnt P lo n + P (lo + n)
theorem cnt_add (P Q : Int → Int) (lo : Int) : ∀ n, cnt (fun x => P x + Q x) lo n = cnt P lo n + cnt Q lo n
  | 0 => rfl
  | n + 1 => by show cnt _ lo n + (P (lo + n) + Q (lo + n)) = cnt P lo n + P (lo + n) + (cnt Q lo n + Q (lo + n)); rw [cnt_add P Q lo n]; omega
theorem cnt_congr {P Q : Int → Int} {lo : Int} (h : ∀ x, P x = Q x) : ∀ n, cnt P lo n = cnt Q lo n
  | 0 => rfl
  | n + 1 => by show cnt P lo n + P _ = cnt Q lo n + Q _; rw [cnt_congr h n, h]
theorem cnt_zero (lo : Int) : ∀ n, cnt (fun _ => 0) lo n = 0
  | 0 => rfl
  | n + 1 => by show cnt _ lo n + 0 = 0; rw [cnt_zero lo n]; rfl
theorem cnt_span (K a c lo : Int) (h1 : lo ≤ a) (h2 : a ≤ c) : ∀ n : Nat, cnt (fun x => if a ≤ x ∧ x < c then K else 0) lo n = K * max 0 (min c (lo + n) - a)
  | 0 => by
    show (0 : Int) = K * max 0 (min c (lo + (0 : Nat)) - a)
    rw [show max 0 (min c (lo + ((0 : Nat) : Int)) - a) = 0 from by omega]; simp
  | n + 1 => by
    show cnt _ lo n + (if a ≤ lo + n ∧ lo + n < c then K else 0) = _
    rw [cnt_span K a c lo h1 h2 n]
    by_cases h : a ≤ lo + n ∧ lo + n < c
    · rw [if_pos h, show max 0 (min c (lo + ((n + 1 : Nat) : Int)) - a) = max 0 (min c (lo + (n : Int)) - a) + 1 from by omega, Int.mul_add, Int.mul_one]
    · rw [if_neg h, show max 0 (min c (lo + ((n + 1 : Nat) : Int)) - a) = max 0 (min c (lo + (n : Int)) - a) from by omega, Int.add_zero]
def cnt2 (P : Int → Int → Bool) : Int := cnt (fun y => cnt (fun x => b2i (P x y)) (-4) 35) (-4) 35
theorem cnt2_sum {P Q P' Q' : Int → Int → Bool} (h : ∀ x y, b2i (P x y) + b2i (Q x y) = b2i (P' x y) + b2i (Q' x y)) : cnt2 P + cnt2 Q = cnt2 P' + cnt2 Q' := by
  unfold cnt2
  rw [← cnt_add, ← cnt_add]
  refine cnt_congr (fun y => ?_) _
  rw [← cnt_add, ← cnt_add]
  exact cnt_congr (fun x => h x y) _
def areaRc (r : Rc) : Int := (r.c - r.a) * (r.d - r.b)
def areaL : List Rc → Int
  | [] => 0
  | r :: l => areaRc r + areaL l
theorem areaL_app : ∀ L M, areaL (L ++ M) = areaL L + areaL M
  | [], M => by show _ = 0 + _; rw [Int.zero_add]; rfl
  | r :: l, M => by show areaRc r + areaL (l ++ M) = areaRc r + areaL l + areaL M; rw [areaL_app l M]; omega
theorem cnt2_rect {r : Rc} (h1 : -4 ≤ r.a) (h2 : r.a ≤ r.c) (h3 : r.c ≤ 31) (h4 : -4 ≤ r.b) (h5 : r.b ≤ r.d) (h6 : r.d ≤ 31) : cnt2 (fun x y => hasB r.a r.b r.c r.d x y) = areaRc r := by
  unfold cnt2
  have e : ∀ y, cnt (fun x => b2i (hasB r.a r.b r.c r.d x y)) (-4) 35 = if r.b ≤ y ∧ y < r.d then (r.c - r.a) else 0 := by
    intro y
    by_cases hy : r.b ≤ y ∧ y < r.d
    · rw [if_pos hy]
      have : ∀ x, b2i (hasB r.a r.b r.c r.d x y) = if r.a ≤ x ∧ x < r.c then 1 else 0 := by
        intro x
        unfold b2i hasB
        by_cases hx : r.a ≤ x ∧ x < r.c
        · rw [if_pos hx, if_pos (by simp; omega)]
        · rw [if_neg hx, if_neg (by simp; omega)]
      rw [cnt_congr this, cnt_span 1 r.a r.c (-4) h1 h2]
      omega
    · rw [if_neg hy]
      have : ∀ x, b2i (hasB r.a r.b r.c r.d x y) = 0 := by
        intro x; unfold b2i hasB; rw [if_neg (by simp; omega)]
      rw [cnt_congr this, cnt_zero]
  rw [cnt_congr e, cnt_span (r.c - r.a) r.b r.d (-4) h4 h5]
  unfold areaRc
  congr 1
  omega
/-- No point is of two. -/
def Apart (L : List Rc) : Prop := L.Pairwise fun r s => ∀ x y, ¬ (hasB r.a r.b r.c r.d x y = true ∧ hasB s.a s.b s.c s.d x y = true)
theorem bandE_apart (y0 y1 : Int) : ∀ E, Inc E → Apart (bandE y0 y1 E)
  | [], _ => List.Pairwise.nil
  | [x], _ => List.Pairwise.nil
  | x :: z :: E, h => by
    obtain ⟨h1, h2⟩ := List.pairwise_cons.1 h
    obtain ⟨h3, h4⟩ := List.pairwise_cons.1 h2
    refine List.pairwise_cons.2 ⟨fun s hs x' y' hh => ?_, bandE_apart y0 y1 E h4⟩
    obtain ⟨_, _, q3, _⟩ := bandE_mem y0 y1 E s hs
    have := h3 _ q3
    unfold hasB at hh; simp at hh; omega
theorem rects_apart : ∀ {B : List Bn}, Wk B → Apart (rectsL B)
  | [], _ => List.Pairwise.nil
  | b :: l, h => by
    obtain ⟨h1, h2, h3⟩ := h.cons
    refine List.pairwise_append.2 ⟨bandE_apart _ _ _ h1.2.1, rects_apart h3, fun r hr s hs x y hh => ?_⟩
    obtain ⟨_, q2, _, _⟩ := bandE_mem _ _ _ r hr
    obtain ⟨c, hc, hs'⟩ := (rects_mem l s).1 hs
    obtain ⟨q5, _, _, _⟩ := bandE_mem _ _ _ s hs'
    have := (h2 c hc).1
    unfold hasB at hh; simp at hh; omega
theorem rects_ne {B : List Bn} (h : Wk B) : ∀ r ∈ rectsL B, r.a < r.c ∧ r.b < r.d := by
  intro r hr
  obtain ⟨b, hb, hr'⟩ := (rects_mem B r).1 hr
  obtain ⟨q1, q2, _, _⟩ := bandE_mem _ _ _ r hr'
  have hok := h.ok b hb
  refine ⟨?_, by rw [q1, q2]; exact hok.1⟩
  have : ∀ (E : List Int), Inc E → ∀ r ∈ bandE b.y0 b.y1 E, r.a < r.c := by
    intro E
    induction E using bandE.induct with
    | case1 x z E ih =>
      intro hE r hr
      unfold bandE at hr
      rw [List.mem_cons] at hr
      rcases hr with rfl | hr
      · exact (List.pairwise_cons.1 hE).1 z (by simp)
      · exact ih (List.pairwise_cons.1 (List.pairwise_cons.1 hE).2).2 r hr
    | case2 E hE' =>
      intro _ r hr
      unfold bandE at hr
      split at hr
      · exact absurd rfl (hE' _ _ _)
      · simp at hr
  exact this b.E hok.2.1 r hr'
theorem cnt2_none : cnt2 (fun _ _ => false) = 0 := by
  unfold cnt2
  have h : ∀ y : Int, cnt (fun x => b2i ((fun _ _ => false : Int → Int → Bool) x y)) (-4) 35 = 0 := fun y => cnt_zero _ _
  rw [cnt_congr (Q := fun _ => 0) h, cnt_zero]
theorem area_cnt : ∀ (L : List Rc), Apart L → (∀ r ∈ L, r.a < r.c ∧ r.b < r.d) → InR near near L → areaL L = cnt2 (hasL L)
  | [], _, _, _ => by rw [show (hasL [] : Int → Int → Bool) = fun _ _ => false from rfl, cnt2_none]; rfl
  | r :: l, h, hn, hi => by
    obtain ⟨h1, h2⟩ := List.pairwise_cons.1 h
    obtain ⟨n1, n2⟩ := hn r (by simp)
    obtain ⟨i1, i2, i3, i4⟩ := hi r (by simp)
    rw [near_mem] at i1 i2 i3 i4
    have ih := area_cnt l h2 (fun q hq => hn q (by simp [hq])) (fun q hq => hi q (by simp [hq]))
    have hr := cnt2_rect (r := r) i1.1 (by omega) i2.2 i3.1 (by omega) i4.2
    have hs := cnt2_sum (P := hasL (r :: l)) (Q := fun _ _ => false) (P' := fun x y => hasB r.a r.b r.c r.d x y) (Q' := hasL l) (fun x y => by
      unfold hasL
      rw [List.any_cons]
      cases hb : hasB r.a r.b r.c r.d x y with
      | false => simp [b2i]
      | true =>
        have : l.any (fun r => hasB r.a r.b r.c r.d x y) = false := by
          rw [List.any_eq_false]; intro s hs hh
          exact h1 s hs x y ⟨hb, hh⟩
        rw [this]; simp [b2i])
    rw [cnt2_none] at hs
    show areaRc r + areaL l = _
    omega
theorem reg_area {L : List Rc} (h : IsReg L) (hi : InR near near L) : areaL L = cnt2 (hasL L) := by
  obtain ⟨B, hB, rfl⟩ := h
  exact area_cnt _ (rects_apart hB.toWk) (rects_ne hB.toWk) hi

/-- What Area asks of a list. -/
def Sm (L : List Rc) : Prop := ∀ r ∈ L, mayB r.a r.b r.c r.d = true ∧ 0 ≤ areaRc r ∧ areaRc r ≤ 2000
theorem sm_reg {L : List Rc} (h : IsReg L) (hi : InR near near L) : Sm L := by
  obtain ⟨B, hB, rfl⟩ := h
  intro r hr
  obtain ⟨n1, n2⟩ := rects_ne hB.toWk r hr
  obtain ⟨i1, i2, i3, i4⟩ := hi r hr
  rw [near_mem] at i1 i2 i3 i4
  refine ⟨by unfold mayB; simp; omega, Int.mul_nonneg (by omega) (by omega), ?_⟩
  calc (r.c - r.a) * (r.d - r.b) ≤ 35 * (r.d - r.b) := Int.mul_le_mul_of_nonneg_right (by omega) (by omega)
    _ ≤ 35 * 35 := Int.mul_le_mul_of_nonneg_left (by omega) (by omega)
    _ ≤ 2000 := by omega
theorem sm_take {L : List Rc} (h : Sm L) : ∀ k : Nat, 0 ≤ areaL (L.take k) ∧ areaL (L.take k) ≤ 2000 * k
  | 0 => by simp [areaL]
  | k + 1 => by
    obtain ⟨i1, i2⟩ := sm_take h k
    by_cases hk : k < L.length
    · obtain ⟨r, hr⟩ := list_at hk
      obtain ⟨_, h2, h3⟩ := h r (List.mem_of_getElem? hr)
      rw [take_more hr, areaL_app]
      show 0 ≤ _ + (areaRc r + 0) ∧ _ + (areaRc r + 0) ≤ _
      omega
    · rw [List.take_of_length_le (by omega)] at *
      omega

set_option maxHeartbeats 4000000 in
theorem areaR1 (A : Option Addr) (c : Nat) (L : List Rc) (w : World) (hA : Rs w A L) (hs : Sm L) (hl : L.length ≤ 1000000) :
    Calls Tryz.prog 88 #[.slice A L.length c] w (Rt w (.int .i64 (areaL L))) := by
  go_enter Tryz.func88, Tryz.ntmps88
  go_wp2
  go_loopw [3, 8] (fun v i wr => ∃ (k : Nat) (s : Int), k ≤ L.length ∧ v = .int .i64 s ∧ i = .int .i64 k ∧ Hid (s = areaL (L.take k)) ∧ 0 ≤ s ∧ s ≤ 2000 * k ∧ Gr w wr) (fun _ i _ => L.length - (intOf i).toNat)
  case atStart => exact ⟨0, 0, Nat.zero_le _, rfl, rfl, Lib.hid rfl, by omega, by omega, Gr.refl w⟩
  case round =>
    obtain ⟨k, s, hk, rfl, rfl, hS, s1, s2, G⟩ := hrel
    by_cases hlt : k < L.length
    · obtain ⟨⟨ra, rb, rc, rd⟩, hr⟩ := list_at hlt
      obtain ⟨b, off, rfl, hrow⟩ := hA.opened (by omega)
      obtain ⟨e1, e2, e3, e4⟩ := (hrow.bl G.bl) k _ hr
      dsimp only at e1 e2 e3 e4
      obtain ⟨m1, m2, m3⟩ := hs _ (List.mem_of_getElem? hr)
      have c1 := fun w => area1 ra rb rc rd w m1
      have hx : ∃ z, z = areaI ra rb rc rd ∧ 0 ≤ z ∧ z ≤ 2000 := ⟨_, rfl, m2, m3⟩
      obtain ⟨z, hz, z1, z2⟩ := hx
      rw [← hz] at c1
      have hS' : Hid (s + z = areaL (L.take (k + 1))) := Lib.hid (by rw [take_more hr, areaL_app, ← hS.out, hz]; show _ = s + (areaRc _ + 0); rw [Int.add_zero]; rfl)
      have lb := World.block_lt_of_cell? _ _ e1
      clear hr m1 m2 m3 hz
      go_wp2_with fail
      refine (c1 _).mono ?_
      rintro e W1 ⟨rfl, g1⟩
      have G1 := (G.alloc (.cells #[.int .i64 ra, .int .i64 rb, .int .i64 rc, .int .i64 rd] 31)).trans g1
      clear e1 e2 e3 e4 lb g1
      go_wp2
      go_roundw
      case rel => exact ⟨k + 1, s + z, by omega, rfl, by go_num, hS', by omega, by omega, G1⟩
      case measure => simp [intOf]; omega
    · obtain rfl : k = L.length := by omega
      go_wp2
      go_ret
      exact ⟨by rw [hS.out, List.take_length]; rfl, G⟩
set_option maxHeartbeats 4000000 in
theorem refareaR1 (A : Option Addr) (c : Nat) (L : List Rc) (w : World) (hA : Rs w A L) (hs : Sm L) (hl : L.length ≤ 1000000) :
    Calls Tryz.prog 81 #[.slice A L.length c] w (Rt w (.int .i64 (areaL L))) := by
  go_enter Tryz.func81, Tryz.ntmps81
  go_wp2
  go_loopw [3, 4] (fun v i wr => ∃ (k : Nat) (s : Int), k ≤ L.length ∧ v = .int .i64 s ∧ i = .int .i64 k ∧ Hid (s = areaL (L.take k)) ∧ 0 ≤ s ∧ s ≤ 2000 * k ∧ Gr w wr) (fun _ i _ => L.length - (intOf i).toNat)
  case atStart => exact ⟨0, 0, Nat.zero_le _, rfl, rfl, Lib.hid rfl, by omega, by omega, Gr.refl w⟩
  case round =>
    obtain ⟨k, s, hk, rfl, rfl, hS, s1, s2, G⟩ := hrel
    by_cases hlt : k < L.length
    · obtain ⟨⟨ra, rb, rc, rd⟩, hr⟩ := list_at hlt
      obtain ⟨b, off, rfl, hrow⟩ := hA.opened (by omega)
      obtain ⟨e1, e2, e3, e4⟩ := (hrow.bl G.bl) k _ hr
      dsimp only at e1 e2 e3 e4
      obtain ⟨m1, m2, m3⟩ := hs _ (List.mem_of_getElem? hr)
      have c1 := fun w => refarea1 ra rb rc rd w m1
      have hx : ∃ z, z = areaI ra rb rc rd ∧ 0 ≤ z ∧ z ≤ 2000 := ⟨_, rfl, m2, m3⟩
      obtain ⟨z, hz, z1, z2⟩ := hx
      rw [← hz] at c1
      have hS' : Hid (s + z = areaL (L.take (k + 1))) := Lib.hid (by rw [take_more hr, areaL_app, ← hS.out, hz]; show _ = s + (areaRc _ + 0); rw [Int.add_zero]; rfl)
      clear hr m1 m2 m3 hz
      go_wp2_with fail
      refine (c1 _).mono ?_
      rintro e W1 ⟨rfl, g1⟩
      have G1 := G.trans g1
      clear e1 e2 e3 e4 g1
      go_wp2
      go_roundw
      case rel => exact ⟨k + 1, s + z, by omega, rfl, by go_num, hS', by omega, by omega, G1⟩
      case measure => simp [intOf]; omega
    · obtain rfl : k = L.length := by omega
      go_wp2
      go_ret
      exact ⟨by rw [hS.out, List.take_length]; rfl, G⟩

def BoolQ (w : World) (b : Bool) (e : Ending) (w' : World) : Prop := e = .returned (.bool b) ∧ Bl w w'
end Go.Proofs.YtablogiielclaaaGreat
namespace Go.Proofs.YtablogiielclaaaGreat
open Go.RowKit Go.Sort

theorem any_take_more {P : Rc → Bool} {L : List Rc} {k : Nat} {r : Rc} (h : L[k]? = some r) (hp : P r = false) (ha : (L.take k).any P = false) : (L.take (k + 1)).any P = false := by
  rw [take_more h, List.any_append, ha]
  simp [hp]

theorem hasL_any (L : List Rc) (x y : Int) : (L.any fun r => hasB r.a r.b r.c r.d x y) = hasL L x y := rfl

end Go.Proofs.YtablogiielclaaaGreat
namespace Go.Proofs.YtablogiielclaaaGreat
open Go.RowKit Go.Sort

attribute [local go_sem] cell?_grow frozen?_grow nlt_r

set_option maxHeartbeats 4000000 in
theorem scale1 (a b c d n : Int) (w : World) (hn : I64 n) :
    Calls Tryz.prog 200 #[.agg #[.int .i64 a, .int .i64 b, .int .i64 c, .int .i64 d], .int .i64 n] w
      (Rt w (.tuple #[.agg #[.int .i64 (scaleR a b c d n).a, .int .i64 (scaleR a b c d n).b, .int .i64 (scaleR a b c d n).c, .int .i64 (scaleR a b c d n).d], .int .i64 (scaleE a b c d n)])) := by
  obtain ⟨hn1, hn2⟩ := hn
  have hh : n < 1 ∨ (1 ≤ n ∧ 8 < n) ∨ (1 ≤ n ∧ n ≤ 8) := by omega
  rcases hh with h | ⟨h, h'⟩ | h
  · have H := scaleR_o (a := a) (b := b) (c := c) (d := d) (n := n) (by omega)
    go_enter Tryz.func200, Tryz.ntmps200
    go_wp2
    go_returns
    refine Rt.rect2 H ?_
    repeat (first | with_reducible exact Gr.refl _ | with_reducible exact Gr.refl _ | with_reducible apply Gr.drew | with_reducible apply Gr.drewN | with_reducible apply Gr.grow | with_reducible apply Gr.alloc | (with_reducible refine Gr.setCell ?_ ?_ _; rotate_left; (simp; try omega)))
  · have H := scaleR_o (a := a) (b := b) (c := c) (d := d) (n := n) (by omega)
    go_enter Tryz.func200, Tryz.ntmps200
    go_wp2
    go_returns
    refine Rt.rect2 H ?_
    repeat (first | with_reducible exact Gr.refl _ | with_reducible exact Gr.refl _ | with_reducible apply Gr.drew | with_reducible apply Gr.drewN | with_reducible apply Gr.grow | with_reducible apply Gr.alloc | (with_reducible refine Gr.setCell ?_ ?_ _; rotate_left; (simp; try omega)))
  · by_cases hm : mayB a b c d = true
    · have hb := hm
      simp only [mayB, decide_eq_true_eq] at hb
      obtain ⟨b1, b2, b3, b4, b5, b6⟩ := hb
      by_cases hB : scaleB a b c d n = true
      · have H := scaleR_t h hB
        have hs : mayB (n * a) (n * b) (n * c) (n * d) = true := by unfold scaleB at hB; rw [hm] at hB; simpa using hB
        clear hB
        have hh : n = 1 ∨ n = 2 ∨ n = 3 ∨ n = 4 ∨ n = 5 ∨ n = 6 ∨ n = 7 ∨ n = 8 := by omega
        clear h hn1 hn2
        rcases hh with rfl | rfl | rfl | rfl | rfl | rfl | rfl | rfl
        all_goals
          have Hh := Lib.hid H
          clear H
          go_enter Tryz.func200, Tryz.ntmps200
          go_wp2_with fail
          refine (may1t hm).mono ?_
          rintro e W1 ⟨rfl, g1⟩
          have A0 := ((At.new w _ _).alloc _).gr g1
          have A1 := (At.new (w.alloc _) _ _).gr g1
          simp only [World.size_alloc] at A1
          have c0 := A0.cell
          have c1 := A1.cell
          have f1 := A1.free
          have l0 := A0.lt
          have l1 := A1.lt
          go_wp2_with fail
          refine (may1t ?hs).mono ?_
          case hs => simpa [Int.mul_comm] using hs
          rintro e W2 ⟨rfl, g2⟩
          have A2 := (A1.alloc _).gr g2
          have B2 := (At.new W1 _ _).gr g2
          clear A0 A1 c0 c1 f1 l0 l1
          have c1 := A2.cell
          have f1 := A2.free
          have l1 := A2.lt
          have c2 := B2.cell
          go_wp2
          (try simp only [Exit.inBlock, Exit.then])
          refine bodyPost_ret (by simp [results, Tryz.results200, go_sem, c1]; try rfl) rfl ?_
          have H := Hh.out
          refine Rt.rect2 (by omega) ?_
          repeat (first | with_reducible exact Gr.refl _ | with_reducible apply Gr.alloc | (with_reducible refine Gr.trans ?_ g2) | (with_reducible refine Gr.trans ?_ g1) | (with_reducible refine Gr.setCell ?_ ?_ _; rotate_left; (simp; try omega)))
      · simp only [Bool.not_eq_true] at hB
        have H := scaleR_f h hB
        have hs : mayB (n * a) (n * b) (n * c) (n * d) = false := by unfold scaleB at hB; rw [hm] at hB; simpa using hB
        clear hB
        have hh : n = 1 ∨ n = 2 ∨ n = 3 ∨ n = 4 ∨ n = 5 ∨ n = 6 ∨ n = 7 ∨ n = 8 := by omega
        clear h hn1 hn2
        rcases hh with rfl | rfl | rfl | rfl | rfl | rfl | rfl | rfl
        all_goals
          have Hh := Lib.hid H
          clear H
          go_enter Tryz.func200, Tryz.ntmps200
          go_wp2_with fail
          refine (may1t hm).mono ?_
          rintro e W1 ⟨rfl, g1⟩
          have A0 := ((At.new w _ _).alloc _).gr g1
          have A1 := (At.new (w.alloc _) _ _).gr g1
          simp only [World.size_alloc] at A1
          have c0 := A0.cell
          have c1 := A1.cell
          have f1 := A1.free
          have l0 := A0.lt
          have l1 := A1.lt
          go_wp2_with fail
          refine (may1f ?hs).mono ?_
          case hs => simpa [Int.mul_comm] using hs
          rintro e W2 ⟨rfl, g2⟩
          have A2 := (A1.alloc _).gr g2
          have B2 := (At.new W1 _ _).gr g2
          clear A0 A1 c0 c1 f1 l0 l1
          have c1 := A2.cell
          have f1 := A2.free
          have l1 := A2.lt
          have c2 := B2.cell
          go_wp2
          (try simp only [Exit.inBlock, Exit.then])
          refine bodyPost_ret (by simp [results, Tryz.results200, go_sem, c1]; try rfl) rfl ?_
          have H := Hh.out
          refine Rt.rect2 (by omega) ?_
          repeat (first | with_reducible exact Gr.refl _ | with_reducible apply Gr.alloc | (with_reducible refine Gr.trans ?_ g2) | (with_reducible refine Gr.trans ?_ g1) | (with_reducible refine Gr.setCell ?_ ?_ _; rotate_left; (simp; try omega)))
    · simp only [Bool.not_eq_true] at hm
      have hB : scaleB a b c d n = false := by unfold scaleB; rw [hm]; simp
      have H := scaleR_f h hB
      clear hB
      obtain ⟨h1, h2⟩ := h
      go_enter Tryz.func200, Tryz.ntmps200
      go_wp2_with fail
      refine (may1f hm).mono ?_
      rintro e w' ⟨rfl, ⟨⟨n, os⟩, rfl⟩⟩
      go_wp2
      go_returns
      refine Rt.rect2 H ?_
      repeat (first | with_reducible exact Gr.refl _ | with_reducible exact Gr.refl _ | with_reducible apply Gr.drew | with_reducible apply Gr.drewN | with_reducible apply Gr.grow | with_reducible apply Gr.alloc | (with_reducible refine Gr.setCell ?_ ?_ _; rotate_left; (simp; try omega)))

end Go.Proofs.YtablogiielclaaaGreat
namespace Go.Proofs.YtablogiielclaaaGreat
open Go.RowKit Go.Sort

attribute [local go_sem] cell?_grow frozen?_grow nlt_r

end Go.Proofs.YtablogiielclaaaGreat
namespace Go.Proofs.YtablogiielclaaaGreat
open Go.RowKit Go.Sort

/-- The least rectangle round what was met so far (zero: none) and one more. -/
def joinR (h r : Rc) : Rc := if h.a = 0 ∧ h.b = 0 ∧ h.c = 0 ∧ h.d = 0 then r else ⟨min h.a r.a, min h.b r.b, max h.c r.c, max h.d r.d⟩
def stepR (h r : Rc) : Rc := if emptyB r.a r.b r.c r.d = true then h else joinR h r
def hullR (f : Nat → Rc) : Nat → Rc
  | 0 => ⟨0, 0, 0, 0⟩
  | k + 1 => stepR (hullR f k) (f k)
theorem hullR_zero (f : Nat → Rc) : hullR f 0 = ⟨0, 0, 0, 0⟩ := rfl
theorem hullR_succ (f : Nat → Rc) (k : Nat) : hullR f (k + 1) = stepR (hullR f k) (f k) := rfl

attribute [local go_sem] cell?_grow frozen?_grow nlt_r
attribute [local go_sem ↓] run_min2 run_max2

set_option maxHeartbeats 2000000 in
theorem join1 (a b c d a' b' c' d' : Int) (w : World) :
    Calls Tryz.prog 216 #[.agg #[.int .i64 a, .int .i64 b, .int .i64 c, .int .i64 d], .agg #[.int .i64 a', .int .i64 b', .int .i64 c', .int .i64 d']] w
      (Rt w (.agg #[.int .i64 (joinR ⟨a, b, c, d⟩ ⟨a', b', c', d'⟩).a, .int .i64 (joinR ⟨a, b, c, d⟩ ⟨a', b', c', d'⟩).b, .int .i64 (joinR ⟨a, b, c, d⟩ ⟨a', b', c', d'⟩).c, .int .i64 (joinR ⟨a, b, c, d⟩ ⟨a', b', c', d'⟩).d])) := by
  go_enter Tryz.func216, Tryz.ntmps216
  go_wp2
  all_goals
    go_returns
    refine Rt.rect ?_ ?_
    · unfold joinR
      dsimp only
      first
        | (rw [if_pos (by omega)]; exact ⟨rfl, rfl, rfl, rfl⟩)
        | (rw [if_neg (by omega)]; dsimp only; omega)
    · repeat (first | with_reducible exact Gr.refl _ | with_reducible apply Gr.drew | with_reducible apply Gr.drewN | with_reducible apply Gr.grow | with_reducible apply Gr.alloc | (with_reducible refine Gr.setCell ?_ ?_ _; rotate_left; (simp; try omega)))

end Go.Proofs.YtablogiielclaaaGreat
namespace Go.Proofs.YtablogiielclaaaGreat
open Go.RowKit Go.Sort

/-- What is made of each rectangle of a row, up to the first error. -/
def EQ (F1 : Rc → Rc) (F2 : Rc → Int) (L R : List Rc) (e : Int) : Prop :=
  (∃ (k : Nat) (r : Rc), L[k]? = some r ∧ (∀ (j : Nat) (q : Rc), j < k → L[j]? = some q → F2 q = 0) ∧ F2 r = e ∧ e ≠ 0 ∧ R = []) ∨ ((∀ (j : Nat) (q : Rc), j < L.length → L[j]? = some q → F2 q = 0) ∧ R = L.map F1 ∧ e = 0)
theorem EQ.one {F1 : Rc → Rc} {F2 : Rc → Int} {L R R' : List Rc} {e e' : Int} (h : EQ F1 F2 L R e) (h' : EQ F1 F2 L R' e') : R = R' ∧ e = e' := by
  rcases h with ⟨k, r, h1, h2, h3, h4, h5⟩ | ⟨h1, h2, h3⟩ <;> rcases h' with ⟨k', r', h1', h2', h3', h4', h5'⟩ | ⟨h1', h2', h3'⟩
  · rcases Nat.lt_trichotomy k k' with hl | hl | hl
    · have := h2' k r hl h1; omega
    · subst hl
      rw [h1] at h1'
      injection h1' with h1'
      subst h1'
      exact ⟨h5.trans h5'.symm, h3.symm.trans h3'⟩
    · have := h2 k' r' hl h1'; omega
  · have := h1' k r (get_lt h1) h1; omega
  · have := h1 k' r' (get_lt h1') h1'; omega
  · exact ⟨h2.trans h2'.symm, h3.trans h3'.symm⟩
def RE (w : World) (Q : List Rc → Int → Prop) (e : Ending) (w' : World) : Prop := ∃ (A : Option Addr) (c : Nat) (R : List Rc) (z : Int), e = .returned (.tuple #[.slice A R.length c, .int .i64 z]) ∧ OwR w' w.heap.size A c R ∧ Q R z ∧ Bl w w'
theorem map_more {F : Rc → Rc} {L : List Rc} {k : Nat} {r : Rc} (h : L[k]? = some r) : (L.take (k + 1)).map F = (L.take k).map F ++ [F r] := by
  rw [take_more h, List.map_append]; rfl
theorem ok_more {F2 : Rc → Int} {L : List Rc} {k : Nat} {r : Rc} (h : L[k]? = some r) (h0 : F2 r = 0) (ho : ∀ (j : Nat) (q : Rc), j < k → L[j]? = some q → F2 q = 0) : ∀ (j : Nat) (q : Rc), j < k + 1 → L[j]? = some q → F2 q = 0 := fun j q hj hq => by
  rcases Nat.lt_or_ge j k with hl | hl
  · exact ho j q hl hq
  · obtain rfl : j = k := by omega
    rw [h] at hq
    injection hq with hq
    subst hq; exact h0

set_option maxRecDepth 100000 in
set_option maxHeartbeats 8000000 in
theorem eachR1 (g : FuncId) (cap : Array Value) (F1 : Rc → Rc) (F2 : Rc → Int) (A : Option Addr) (c : Nat) (L : List Rc) (w : World) (hA : Rs w A L) (hl : L.length ≤ 100000000) (hg : Kc g) (hc : ∀ r ∈ L, ∀ w', Bl w w' → Calls Tryz.prog g (#[.agg #[.int .i64 r.a, .int .i64 r.b, .int .i64 r.c, .int .i64 r.d]] ++ cap) w' (Rt w' (.tuple #[.agg #[.int .i64 (F1 r).a, .int .i64 (F1 r).b, .int .i64 (F1 r).c, .int .i64 (F1 r).d], .int .i64 (F2 r)]))) :
    Calls Tryz.prog 246 #[.slice A L.length c, .func (.func g) #[] cap] w (RE w (EQ F1 F2 L)) := by
  unfold Kc at hg
  obtain ⟨n, hn⟩ : ∃ n, n = L.length := ⟨_, rfl⟩
  rw [← hn] at hl ⊢
  replace hn := Lib.hid hn
  go_enter Tryz.func246, Tryz.ntmps246
  go_wp2
  go_loopw [6, 13] (fun v iv wr => ∃ (k : Nat) (A' : Option Addr) (c' : Nat) (O : List Rc), k ≤ n ∧ v = .slice A' O.length c' ∧ iv = .int .i64 k ∧ OwR wr w.heap.size A' c' O ∧ O.length ≤ k ∧ Hid (O = (L.take k).map F1) ∧ Hid (∀ (j : Nat) (q : Rc), j < k → L[j]? = some q → F2 q = 0) ∧ Bl w wr) (fun _ iv _ => n - (intOf iv).toNat)
  case atStart => exact ⟨0, none, 0, [], Nat.zero_le _, rfl, rfl, OwR.nil _ _, by simp, Lib.hid (by simp), Lib.hid (fun j q hj => by omega), Bl.refl w⟩
  case round =>
    obtain ⟨k, A', c', O, hk, rfl, rfl, own, hOl, hO, hok, G⟩ := hrel
    by_cases hlt : k < n
    · obtain ⟨r, hr⟩ := list_at (show k < L.length by rw [← hn.out]; exact hlt)
      obtain ⟨b, off, rfl, hrow⟩ := hA.opened (by have := hn.out; omega)
      obtain ⟨e1, e2, e3, e4⟩ := (hrow.bl G) k r hr
      have lb := World.block_lt_of_cell? _ _ e1
      have cc := hc r (List.mem_of_getElem? hr)
      have hmore := map_more (F := F1) hr
      rw [← hO.out] at hmore
      replace hmore := Lib.hid hmore
      have hbad : F2 r ≠ 0 → EQ F1 F2 L [] (F2 r) := fun h => Or.inl ⟨k, r, hr, hok.out, rfl, h, rfl⟩
      have hmok := fun h => ok_more (F2 := F2) hr h hok.out
      have szo := G.size
      replace hr := Lib.hid hr
      by_cases hz : F2 r = 0
      · replace hmok := Lib.hid (hmok hz)
        rw [hz] at cc
        clear hz hbad
        generalize F1 r = mR at *
        obtain ⟨ma, mb, mc, md⟩ := mR
        dsimp only at cc
        go_wp2_with fail
        refine (cc _ (G.alloc _)).mono ?_
        rintro e W2 ⟨rfl, g2⟩
        have G2 := (G.alloc (.cells #[.int .i64 r.a, .int .i64 r.b, .int .i64 r.c, .int .i64 r.d] 31)).trans g2.bl
        have o2 := (((own.bl ((Bl.refl wr).alloc (.cells #[.int .i64 r.a, .int .i64 r.b, .int .i64 r.c, .int .i64 r.d] 31))).bl g2.bl).bl ((Bl.refl W2).alloc (.cells #[.int .i64 ma, .int .i64 mb, .int .i64 mc, .int .i64 md] 31))).bl ((Bl.refl _).alloc (.cells #[.int .i64 ma, .int .i64 mb, .int .i64 mc, .int .i64 md] 31))
        have sz2 := G2.size
        clear e1 e2 e3 e4 lb
        go_wp2_with (at_builtin; refine wp_app_r rfl (.tmp 26) (.tmp 28) rfl A' c' O rfl w.heap.size o2 (W2.heap.size + 1) ⟨ma, mb, mc, md⟩ 1 rfl (At.newAt (w := W2.alloc (.cells #[.int .i64 ma, .int .i64 mb, .int .i64 mc, .int .i64 md] 31)) (by simp) _ _) (by omega) (by simp; omega) ?_; intro A3 c3 w3 own3 ap3)
        go_roundw
        case rel => exact ⟨k + 1, A3, c3, O ++ [⟨ma, mb, mc, md⟩], by omega, by simp, by go_num, own3, by simp; omega, Lib.hid hmore.out.symm, hmok, ap3.bl ((G2.alloc _).alloc _) o2.lies (Nat.le_refl _)⟩
        case measure => simp [intOf]; omega
      · have hzb : (F2 r != 0) = true := by simpa using hz
        replace hbad := Lib.hid (hbad hz)
        clear hz hmok hmore
        generalize F1 r = mR at *
        generalize hzz : F2 r = z at *
        replace hzz := Lib.hid hzz
        obtain ⟨ma, mb, mc, md⟩ := mR
        dsimp only at cc
        go_wp2_with fail
        refine (cc _ (G.alloc _)).mono ?_
        rintro e W2 ⟨rfl, g2⟩
        have G2 := (G.alloc (.cells #[.int .i64 r.a, .int .i64 r.b, .int .i64 r.c, .int .i64 r.d] 31)).trans g2.bl
        clear e1 e2 e3 e4 lb
        go_wp2
        go_ret2
        exact ⟨none, 0, [], z, rfl, OwR.nil _ _, hbad.out, G2.alloc _⟩
    · obtain rfl : k = n := by omega
      go_wp2
      go_ret2
      exact ⟨A', c', O, 0, rfl, own, .inr ⟨fun j q hj hq => hok.out j q (by have := hn.out; omega) hq, by rw [hO.out, hn.out, List.take_length], rfl⟩, G⟩

theorem OwR.base {w : World} {B B' : Nat} {A : Option Addr} {c : Nat} {L : List Rc} (h : OwR w B A c L) (hB : B' ≤ B) : OwR w B' A c L :=
  ⟨h.1, h.2.imp id fun ⟨g, cap, cur, h1, h2, r⟩ => ⟨g, cap, cur, h1, Nat.le_trans hB h2, r⟩⟩
def mvF (x y : Int) (r : Rc) : Rc := moveR r.a r.b r.c r.d x y
def mvE (x y : Int) (r : Rc) : Int := moveE r.a r.b r.c r.d x y
def scF (m : Int) (r : Rc) : Rc := scaleR r.a r.b r.c r.d m
def scE (m : Int) (r : Rc) : Int := scaleE r.a r.b r.c r.d m
def BdL (L : List Rc) : Prop := ∀ r ∈ L, Bd r.a ∧ Bd r.b ∧ Bd r.c ∧ Bd r.d
theorem kcMove : Kc 248 := fun _ _ => by kernel_rfl
theorem kcScale : Kc 247 := fun _ _ => by kernel_rfl

set_option maxHeartbeats 2000000 in
theorem movec1 (r : Rc) (x y : Int) (kx ky : Nat) (tx ty : TypeId) (w : World) (hX : At w kx #[.int .i64 x] tx) (hY : At w ky #[.int .i64 y] ty) (ha : Bd r.a) (hb : Bd r.b) (hc : Bd r.c) (hd : Bd r.d) (hx : I64 x) (hy : I64 y) :
    Calls Tryz.prog 248 #[.agg #[.int .i64 r.a, .int .i64 r.b, .int .i64 r.c, .int .i64 r.d], .pointer (some ⟨kx, 0, none⟩), .pointer (some ⟨ky, 0, none⟩)] w
      (Rt w (.tuple #[.agg #[.int .i64 (moveR r.a r.b r.c r.d x y).a, .int .i64 (moveR r.a r.b r.c r.d x y).b, .int .i64 (moveR r.a r.b r.c r.d x y).c, .int .i64 (moveR r.a r.b r.c r.d x y).d], .int .i64 (moveE r.a r.b r.c r.d x y)])) := by
  obtain ⟨a, b, c, d⟩ := r
  dsimp only at *
  have c1 := fun w => move1 a b c d x y w ha hb hc hd hx hy
  generalize moveR a b c d x y = R at *
  generalize moveE a b c d x y = E at *
  obtain ⟨ma, mb, mc, md⟩ := R
  dsimp only at *
  have f1 := hX.cell 0
  have f2 := hY.cell 0
  have l1 := hX.lt
  have l2 := hY.lt
  simp at f1 f2
  clear ha hb hc hd hx hy
  go_enter Tryz.func248, Tryz.ntmps248
  go_wp2_with fail
  refine (c1 _).mono ?_
  rintro e w' ⟨rfl, g1⟩
  have B := (At.newAt (w := w.alloc (.cells #[.int .i64 a, .int .i64 b, .int .i64 c, .int .i64 d] 31)) (n := w.heap.size + 1) (by simp) #[.int .i64 0, .int .i64 0, .int .i64 0, .int .i64 0] 31).gr g1
  have G := (((Gr.refl w).alloc (.cells #[.int .i64 a, .int .i64 b, .int .i64 c, .int .i64 d] 31)).alloc (.cells #[.int .i64 0, .int .i64 0, .int .i64 0, .int .i64 0] 31)).trans g1
  have b0 := B.cell 0; have b1 := B.cell 1; have b2 := B.cell 2; have b3 := B.cell 3
  have q0 := B.free 0; have q1 := B.free 1; have q2 := B.free 2; have q3 := B.free 3
  simp at b0 b1 b2 b3
  go_wp2
  have B' := At.put4 B (.int .i64 ma) (.int .i64 mb) (.int .i64 mc) (.int .i64 md)
  have k0 := B'.cell 0; have k1 := B'.cell 1; have k2 := B'.cell 2; have k3 := B'.cell 3
  simp at k0 k1 k2 k3
  refine bodyPost_ret (v := .tuple #[.agg #[.int .i64 ma, .int .i64 mb, .int .i64 mc, .int .i64 md], .int .i64 E]) (by simp [results, Tryz.results248, go_sem, k0, k1, k2, k3]) rfl ⟨rfl, ?_⟩
  repeat (first | with_reducible exact G | (with_reducible refine Gr.setCell ?_ ?_ _; rotate_left; (simp; try omega)))

set_option maxHeartbeats 2000000 in
theorem scalec1 (r : Rc) (m : Int) (kx : Nat) (tx : TypeId) (w : World) (hX : At w kx #[.int .i64 m] tx) (hm : I64 m) :
    Calls Tryz.prog 247 #[.agg #[.int .i64 r.a, .int .i64 r.b, .int .i64 r.c, .int .i64 r.d], .pointer (some ⟨kx, 0, none⟩)] w
      (Rt w (.tuple #[.agg #[.int .i64 (scaleR r.a r.b r.c r.d m).a, .int .i64 (scaleR r.a r.b r.c r.d m).b, .int .i64 (scaleR r.a r.b r.c r.d m).c, .int .i64 (scaleR r.a r.b r.c r.d m).d], .int .i64 (scaleE r.a r.b r.c r.d m)])) := by
  obtain ⟨a, b, c, d⟩ := r
  dsimp only at *
  have c1 := fun w => scale1 a b c d m w hm
  generalize scaleR a b c d m = R at *
  generalize scaleE a b c d m = E at *
  obtain ⟨ma, mb, mc, md⟩ := R
  dsimp only at *
  have f1 := hX.cell 0
  have l1 := hX.lt
  simp at f1
  clear hm
  go_enter Tryz.func247, Tryz.ntmps247
  go_wp2_with fail
  refine (c1 _).mono ?_
  rintro e w' ⟨rfl, g1⟩
  have B := (At.newAt (w := w.alloc (.cells #[.int .i64 a, .int .i64 b, .int .i64 c, .int .i64 d] 31)) (n := w.heap.size + 1) (by simp) #[.int .i64 0, .int .i64 0, .int .i64 0, .int .i64 0] 31).gr g1
  have G := (((Gr.refl w).alloc (.cells #[.int .i64 a, .int .i64 b, .int .i64 c, .int .i64 d] 31)).alloc (.cells #[.int .i64 0, .int .i64 0, .int .i64 0, .int .i64 0] 31)).trans g1
  have b0 := B.cell 0; have b1 := B.cell 1; have b2 := B.cell 2; have b3 := B.cell 3
  have q0 := B.free 0; have q1 := B.free 1; have q2 := B.free 2; have q3 := B.free 3
  simp at b0 b1 b2 b3
  go_wp2
  have B' := At.put4 B (.int .i64 ma) (.int .i64 mb) (.int .i64 mc) (.int .i64 md)
  have k0 := B'.cell 0; have k1 := B'.cell 1; have k2 := B'.cell 2; have k3 := B'.cell 3
  simp at k0 k1 k2 k3
  refine bodyPost_ret (v := .tuple #[.agg #[.int .i64 ma, .int .i64 mb, .int .i64 mc, .int .i64 md], .int .i64 E]) (by simp [results, Tryz.results247, go_sem, k0, k1, k2, k3]) rfl ⟨rfl, ?_⟩
  repeat (first | with_reducible exact G | (with_reducible refine Gr.setCell ?_ ?_ _; rotate_left; (simp; try omega)))

set_option maxHeartbeats 2000000 in
theorem moveR1 (A : Option Addr) (c : Nat) (L : List Rc) (x y : Int) (w : World) (hA : Rs w A L) (hl : L.length ≤ 100000000) (hb : BdL L) (hx : I64 x) (hy : I64 y) :
    Calls Tryz.prog 191 #[.slice A L.length c, .int .i64 x, .int .i64 y] w (RE w (EQ (mvF x y) (mvE x y) L)) := by
  have G := ((Bl.refl w).alloc (.cells #[.int .i64 x] 3)).alloc (.cells #[.int .i64 y] 3)
  have X := (At.new w #[.int .i64 x] 3).alloc (.cells #[.int .i64 y] 3)
  have Y := At.newAt (w := w.alloc (.cells #[.int .i64 x] 3)) (n := w.heap.size + 1) (by simp) #[.int .i64 y] 3
  have cE := eachR1 248 #[.pointer (some ⟨w.heap.size, 0, none⟩), .pointer (some ⟨w.heap.size + 1, 0, none⟩)] (mvF x y) (mvE x y) A c L _ (hA.bl G) hl kcMove
    (fun r hr w' g => movec1 r x y _ _ _ _ w' (X.bl g) (Y.bl g) (hb r hr).1 (hb r hr).2.1 (hb r hr).2.2.1 (hb r hr).2.2.2 hx hy)
  generalize EQ (mvF x y) (mvE x y) L = Q at *
  generalize L.length = n at *
  clear hb hx hy hl
  go_enter Tryz.func191, Tryz.ntmps191
  go_wp2_with fail
  refine cE.mono ?_
  rintro e w' ⟨A1, c1, R, z, rfl, o1, hq, g1⟩
  go_wp2
  go_ret2
  exact ⟨A1, c1, R, z, rfl, OwR.base o1 (by simp; omega), hq, G.trans g1⟩

set_option maxHeartbeats 2000000 in
theorem scaleRo (A : Option Addr) (c n : Nat) (m : Int) (w : World) (hm : m < 1 ∨ 8 < m) :
    Calls Tryz.prog 190 #[.slice A n c, .int .i64 m] w (fun e w' => e = .returned (.tuple #[.slice none 0 0, .int .i64 1]) ∧ Bl w w') := by
  by_cases h : m < 1
  · go_enter Tryz.func190, Tryz.ntmps190
    go_wp2
    go_ret2
    exact ⟨rfl, (Bl.refl w).alloc _⟩
  · have h8 : 8 < m := by omega
    have h1 : ¬ m < 1 := by omega
    go_enter Tryz.func190, Tryz.ntmps190
    go_wp2
    go_ret2
    exact ⟨rfl, (Bl.refl w).alloc _⟩
set_option maxHeartbeats 2000000 in
theorem scaleR1 (A : Option Addr) (c : Nat) (L : List Rc) (m : Int) (w : World) (hA : Rs w A L) (hl : L.length ≤ 100000000) (h1 : 1 ≤ m) (h8 : m ≤ 8) :
    Calls Tryz.prog 190 #[.slice A L.length c, .int .i64 m] w (RE w (EQ (scF m) (scE m) L)) := by
  have G := (Bl.refl w).alloc (.cells #[.int .i64 m] 3)
  have X := At.new w #[.int .i64 m] 3
  have cE := eachR1 247 #[.pointer (some ⟨w.heap.size, 0, none⟩)] (scF m) (scE m) A c L _ (hA.bl G) hl kcScale
    (fun r hr w' g => scalec1 r m _ _ w' (X.bl g) (by unfold I64; omega))
  generalize EQ (scF m) (scE m) L = Q at *
  generalize L.length = n at *
  clear hl X hA
  have q1 : ¬ m < 1 := by omega
  have q2 : ¬ 8 < m := by omega
  go_enter Tryz.func190, Tryz.ntmps190
  go_wp2_with fail
  refine cE.mono ?_
  rintro e w' ⟨A1, c1, R, z, rfl, o1, hq, g1⟩
  go_wp2
  go_ret2
  exact ⟨A1, c1, R, z, rfl, OwR.base o1 (by simp), hq, G.trans g1⟩

end Go.Proofs.YtablogiielclaaaGreat
namespace Go.Proofs.YtablogiielclaaaGreat
open Go.RowKit Go.Sort

/-- What Area asks of a list of larger rectangles. -/
def SmW (L : List Rc) : Prop := ∀ r ∈ L, mayB r.a r.b r.c r.d = true ∧ 0 ≤ areaRc r ∧ areaRc r ≤ 130000
theorem smw_take {L : List Rc} (h : SmW L) : ∀ k : Nat, 0 ≤ areaL (L.take k) ∧ areaL (L.take k) ≤ 130000 * k
  | 0 => by simp [areaL]
  | k + 1 => by
    obtain ⟨i1, i2⟩ := smw_take h k
    by_cases hk : k < L.length
    · obtain ⟨r, hr⟩ := list_at hk
      obtain ⟨_, h2, h3⟩ := h r (List.mem_of_getElem? hr)
      rw [take_more hr, areaL_app]
      show 0 ≤ _ + (areaRc r + 0) ∧ _ + (areaRc r + 0) ≤ _
      omega
    · rw [List.take_of_length_le (by omega)] at *
      omega

set_option maxHeartbeats 4000000 in
theorem areaRW (A : Option Addr) (c : Nat) (L : List Rc) (w : World) (hA : Rs w A L) (hs : SmW L) (hl : L.length ≤ 1000000) :
    Calls Tryz.prog 88 #[.slice A L.length c] w (Rt w (.int .i64 (areaL L))) := by
  go_enter Tryz.func88, Tryz.ntmps88
  go_wp2
  go_loopw [3, 8] (fun v i wr => ∃ (k : Nat) (s : Int), k ≤ L.length ∧ v = .int .i64 s ∧ i = .int .i64 k ∧ Hid (s = areaL (L.take k)) ∧ 0 ≤ s ∧ s ≤ 130000 * k ∧ Gr w wr) (fun _ i _ => L.length - (intOf i).toNat)
  case atStart => exact ⟨0, 0, Nat.zero_le _, rfl, rfl, Lib.hid rfl, by omega, by omega, Gr.refl w⟩
  case round =>
    obtain ⟨k, s, hk, rfl, rfl, hS, s1, s2, G⟩ := hrel
    by_cases hlt : k < L.length
    · obtain ⟨⟨ra, rb, rc, rd⟩, hr⟩ := list_at hlt
      obtain ⟨b, off, rfl, hrow⟩ := hA.opened (by omega)
      obtain ⟨e1, e2, e3, e4⟩ := (hrow.bl G.bl) k _ hr
      dsimp only at e1 e2 e3 e4
      obtain ⟨m1, m2, m3⟩ := hs _ (List.mem_of_getElem? hr)
      have c1 := fun w => area1 ra rb rc rd w m1
      have hx : ∃ z, z = areaI ra rb rc rd ∧ 0 ≤ z ∧ z ≤ 130000 := ⟨_, rfl, m2, m3⟩
      obtain ⟨z, hz, z1, z2⟩ := hx
      rw [← hz] at c1
      have hS' : Hid (s + z = areaL (L.take (k + 1))) := Lib.hid (by rw [take_more hr, areaL_app, ← hS.out, hz]; show _ = s + (areaRc _ + 0); rw [Int.add_zero]; rfl)
      have lb := World.block_lt_of_cell? _ _ e1
      clear hr m1 m2 m3 hz
      go_wp2_with fail
      refine (c1 _).mono ?_
      rintro e W1 ⟨rfl, g1⟩
      have G1 := (G.alloc (.cells #[.int .i64 ra, .int .i64 rb, .int .i64 rc, .int .i64 rd] 31)).trans g1
      clear e1 e2 e3 e4 lb g1
      go_wp2
      go_roundw
      case rel => exact ⟨k + 1, s + z, by omega, rfl, by go_num, hS', by omega, by omega, G1⟩
      case measure => simp [intOf]; omega
    · obtain rfl : k = L.length := by omega
      go_wp2
      go_ret
      exact ⟨by rw [hS.out, List.take_length]; rfl, G⟩

/-- So many times, and moved. -/
def afR (s x y : Int) (r : Rc) : Rc := ⟨s * r.a + x, s * r.b + y, s * r.c + x, s * r.d + y⟩
def afB (s x y : Int) (b : Bn) : Bn := ⟨s * b.y0 + y, s * b.y1 + y, b.E.map fun t => s * t + x⟩
theorem bandE_af (s x y y0 y1 : Int) : ∀ E : List Int, bandE (s * y0 + y) (s * y1 + y) (E.map fun t => s * t + x) = (bandE y0 y1 E).map (afR s x y)
  | [] => rfl
  | [a] => rfl
  | a :: b :: E => by
    show _ :: bandE _ _ _ = _ :: _
    rw [bandE_af s x y y0 y1 E]
    rfl
theorem rectsL_af (s x y : Int) : ∀ B : List Bn, rectsL (B.map (afB s x y)) = (rectsL B).map (afR s x y)
  | [] => rfl
  | b :: l => by
    show bandE _ _ _ ++ rectsL (l.map (afB s x y)) = (bandE b.y0 b.y1 b.E ++ rectsL l).map (afR s x y)
    rw [rectsL_af s x y l, List.map_append]
    congr 1
    exact bandE_af s x y b.y0 b.y1 b.E
theorem af_lt {s x a b : Int} (hs : 1 ≤ s) (h : a < b) : s * a + x < s * b + x := by
  have := Int.mul_lt_mul_of_pos_left h (show 0 < s by omega)
  omega
theorem af_le {s x a b : Int} (hs : 1 ≤ s) (h : a ≤ b) : s * a + x ≤ s * b + x := by
  have := Int.mul_le_mul_of_nonneg_left h (show 0 ≤ s by omega)
  omega
theorem af_inj {s x a b : Int} (hs : 1 ≤ s) (h : s * a + x = s * b + x) : a = b := by
  rcases Int.lt_trichotomy a b with hl | hl | hl
  · have := af_lt (x := x) hs hl; omega
  · exact hl
  · have := af_lt (x := x) hs hl; omega
theorem map_inj {f : Int → Int} (hf : ∀ a b, f a = f b → a = b) : ∀ E F : List Int, E.map f = F.map f → E = F
  | [], [], _ => rfl
  | [], _ :: _, h => by simp at h
  | _ :: _, [], h => by simp at h
  | a :: E, b :: F, h => by
    simp only [List.map_cons, List.cons.injEq] at h
    rw [hf a b h.1, map_inj hf E F h.2]
theorem reg_af {s : Int} (hs : 1 ≤ s) (x y : Int) {L : List Rc} (h : IsReg L) : IsReg (L.map (afR s x y)) := by
  obtain ⟨B, hB, rfl⟩ := h
  refine ⟨B.map (afB s x y), ⟨⟨fun b hb => ?_, ?_⟩, fun b hb => ?_⟩, (rectsL_af s x y B).symm⟩
  · rw [List.mem_map] at hb
    obtain ⟨t, ht, rfl⟩ := hb
    obtain ⟨o1, o2, o3⟩ := hB.ok t ht
    refine ⟨af_lt hs o1, ?_, by show (t.E.map _).length % 2 = 0; rw [List.length_map]; exact o3⟩
    unfold Inc
    show (t.E.map _).Pairwise _
    rw [List.pairwise_map]
    exact List.Pairwise.imp (fun hab => af_lt hs hab) o2
  · rw [List.pairwise_map]
    refine List.Pairwise.imp (fun {b b'} hbb => ?_) hB.seq
    refine ⟨af_le hs hbb.1, fun hh => hbb.2 ⟨af_inj hs hh.1, map_inj (fun a c e => af_inj hs e) _ _ hh.2⟩⟩
  · rw [List.mem_map] at hb
    obtain ⟨t, ht, rfl⟩ := hb
    show t.E.map _ ≠ []
    intro he
    exact hB.full t ht (List.map_eq_nil_iff.1 he)
theorem area_sc (m : Int) (r : Rc) : areaRc (afR m 0 0 r) = m * m * areaRc r := by
  unfold areaRc afR
  simp only [Int.add_zero]
  rw [← Int.mul_sub, ← Int.mul_sub]
  simp only [Int.mul_assoc, Int.mul_left_comm]
theorem areaL_sc (m : Int) : ∀ L : List Rc, areaL (L.map (afR m 0 0)) = m * m * areaL L
  | [] => by show (0 : Int) = m * m * 0; rw [Int.mul_zero]
  | r :: l => by
    show areaRc (afR m 0 0 r) + areaL (l.map (afR m 0 0)) = m * m * (areaRc r + areaL l)
    rw [areaL_sc m l, area_sc, Int.mul_add]
theorem mv_af {x y : Int} {r : Rc} (h : mvE x y r = 0) : mvF x y r = afR 1 x y r := by
  unfold mvE moveE at h
  unfold mvF moveR afR
  split at h
  · rename_i hb; rw [if_pos hb]; simp only [Int.one_mul]
  · omega
theorem sc_af {m : Int} {r : Rc} (h1 : 1 ≤ m) (h8 : m ≤ 8) (h : scE m r = 0) : scF m r = afR m 0 0 r ∧ mayB (m * r.a) (m * r.b) (m * r.c) (m * r.d) = true := by
  have hn : ¬ (m < 1 ∨ 8 < m) := by omega
  unfold scE scaleE at h
  unfold scF scaleR afR
  rw [if_neg hn] at h
  rw [if_neg hn]
  split at h
  · rename_i hb
    rw [if_pos hb]
    unfold scaleB at hb
    simp only [Bool.and_eq_true] at hb
    simp only [Int.add_zero]
    exact ⟨trivial, hb.2⟩
  · omega
theorem map_eq_of {F G : Rc → Rc} {P : Rc → Int} {L : List Rc} (h : ∀ (j : Nat) (q : Rc), j < L.length → L[j]? = some q → P q = 0) (k : ∀ r, P r = 0 → F r = G r) : L.map F = L.map G := by
  refine List.map_congr_left fun r hr => k r ?_
  obtain ⟨j, hj, e⟩ := List.getElem_of_mem hr
  exact h j r hj (by rw [List.getElem?_eq_getElem hj, e])
theorem mv_reg {x y : Int} {L R : List Rc} {z : Int} (h : EQ (mvF x y) (mvE x y) L R z) (hL : IsReg L) : IsReg R := by
  rcases h with ⟨_, _, _, _, _, _, rfl⟩ | ⟨h1, rfl, _⟩
  · exact ⟨[], ⟨Wk.nil, by simp⟩, rfl⟩
  · rw [map_eq_of h1 (fun r => mv_af)]
    exact reg_af (Int.le_refl _) x y hL
theorem sc_reg {m : Int} (h1 : 1 ≤ m) (h8 : m ≤ 8) {L R : List Rc} {z : Int} (h : EQ (scF m) (scE m) L R z) (hL : IsReg L) : IsReg R := by
  rcases h with ⟨_, _, _, _, _, _, rfl⟩ | ⟨k1, rfl, _⟩
  · exact ⟨[], ⟨Wk.nil, by simp⟩, rfl⟩
  · rw [map_eq_of k1 (fun r hr => (sc_af h1 h8 hr).1)]
    exact reg_af h1 0 0 hL
theorem sc_area {m : Int} (h1 : 1 ≤ m) (h8 : m ≤ 8) {L R : List Rc} (h : EQ (scF m) (scE m) L R 0) (hs : Sm L) : areaL R = m * m * areaL L ∧ SmW R := by
  rcases h with ⟨_, _, _, _, _, h0, _⟩ | ⟨k1, rfl, _⟩
  · exact absurd rfl h0
  · rw [map_eq_of k1 (fun r hr => (sc_af h1 h8 hr).1)]
    refine ⟨areaL_sc m L, fun r hr => ?_⟩
    rw [List.mem_map] at hr
    obtain ⟨t, ht, rfl⟩ := hr
    obtain ⟨j, hj, e⟩ := List.getElem_of_mem ht
    have hz := k1 j t hj (by rw [List.getElem?_eq_getElem hj, e])
    have hm := (sc_af h1 h8 hz).2
    obtain ⟨_, a1, a2⟩ := hs t ht
    have hmm : 0 ≤ m * m ∧ m * m ≤ 64 := ⟨Int.mul_nonneg (by omega) (by omega), Int.le_trans (Int.mul_le_mul h8 h8 (by omega) (by omega)) (by omega)⟩
    refine ⟨by unfold afR; simp only [Int.add_zero]; exact hm, by rw [area_sc]; exact Int.mul_nonneg hmm.1 a1, ?_⟩
    rw [area_sc]
    calc m * m * areaRc t ≤ 64 * areaRc t := Int.mul_le_mul_of_nonneg_right hmm.2 a1
      _ ≤ 64 * 2000 := Int.mul_le_mul_of_nonneg_left a2 (by omega)
      _ ≤ 130000 := by omega

end Go.Proofs.YtablogiielclaaaGreat
