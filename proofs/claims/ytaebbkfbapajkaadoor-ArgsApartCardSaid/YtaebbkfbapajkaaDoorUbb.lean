/-
  What is proved: the walk of the statement ArgsApart. No conditions.
-/
import Derived.Test.YtaebbkfbapajkaaDoorUba
import Derived.StillTailTactics
namespace Go.Proofs.YtaebbkfbapajkaaDoor
open Go.RowKit Go.Sort
attribute [local go_sem ↓] run_min2 run_max2

theorem cV_set : ∀ (L : List (Av × Value)) (k : Nat) (p p' : Av × Value) (j : Nat) (u : Value), L[k]? = some p → j < 8 → (c8 p).set j u = c8 p' → (cV L).set (k * 8 + j) u = cV (L.set k p')
  | [], k, p, p', j, u, h, _, _ => by simp at h
  | q :: L, 0, p, p', j, u, h, hj, he => by
    simp at h; subst h
    unfold cV
    rw [show 0 * 8 + j = j by omega, List.set_append_left _ _ (by rw [c8_len]; exact hj), he]
    rfl
  | q :: L, k + 1, p, p', j, u, h, hj, he => by
    have i := cV_set L k p p' j u (by simpa using h) hj he
    show (c8 q ++ cV L).set ((k + 1) * 8 + j) u = c8 q ++ cV (L.set k p')
    rw [List.set_append_right _ _ (by rw [c8_len]; omega), show (k + 1) * 8 + j - (c8 q).length = k * 8 + j by rw [c8_len]; omega, i]
theorem own_set {w : World} {B s n c g : Nat} {e : TypeId} {xs : List Value} (h : w.ownsRow B e s (.slice (some ⟨g, 0, none⟩) n c) n xs) (i : Nat) (u : Value) : (w.setCell ⟨g, i, none⟩ u).ownsRow B e s (.slice (some ⟨g, 0, none⟩) n c) n (xs.set i u) :=
  (World.ownsRow.stored h i u).1
/-- An argument's number is turned, in a row that the call owns. -/
theorem OwV.putN {w : World} {B g c q : Nat} {Y : List (Av × Value)} {p : Av × Value} (h : OwV w B (some ⟨g, 0, none⟩) c Y) (hp : Y[q]? = some p) (m : Int) :
    OwV (w.setCell ⟨g, q * 8 + 1, none⟩ (.int .i64 m)) B (some ⟨g, 0, none⟩) c (Y.set q ({ p.1 with n := m }, p.2)) := by
  have e := cV_set Y q p ({ p.1 with n := m }, p.2) 1 (.int .i64 m) hp (by omega) rfl
  have k := own_set h (q * 8 + 1) (.int .i64 m)
  unfold OwV
  rw [List.length_set, ← e]
  exact k
/-- An argument is turned, all of it. -/
theorem OwV.putA {w : World} {B g c q : Nat} {Y : List (Av × Value)} {p : Av × Value} (h : OwV w B (some ⟨g, 0, none⟩) c Y) (hp : Y[q]? = some p) (r : Av × Value) :
    OwV ((((((((w.setCell ⟨g, q * 8, none⟩ (.int .i64 r.1.k)).setCell ⟨g, q * 8 + 1, none⟩ (.int .i64 r.1.n)).setCell ⟨g, q * 8 + 2, none⟩ (.string r.1.s)).setCell ⟨g, q * 8 + 3, none⟩ (.int .i64 r.1.x0)).setCell ⟨g, q * 8 + 4, none⟩ (.int .i64 r.1.y0)).setCell ⟨g, q * 8 + 5, none⟩ (.int .i64 r.1.x1)).setCell ⟨g, q * 8 + 6, none⟩ (.int .i64 r.1.y1)).setCell ⟨g, q * 8 + 7, none⟩ r.2) B (some ⟨g, 0, none⟩) c (Y.set q r) := by
  have hk : q < Y.length := by
    rcases Nat.lt_or_ge q Y.length with h' | h'
    · exact h'
    · rw [List.getElem?_eq_none h'] at hp; cases hp
  have at_ : ∀ z : Av × Value, (Y.set q z)[q]? = some z := fun z => by simp [hk]
  have e0 := cV_set Y q p (⟨r.1.k, p.1.n, p.1.s, p.1.x0, p.1.y0, p.1.x1, p.1.y1, p.1.b⟩, p.2) 0 (.int .i64 r.1.k) hp (by omega) rfl
  have e1 := cV_set _ q _ (⟨r.1.k, r.1.n, p.1.s, p.1.x0, p.1.y0, p.1.x1, p.1.y1, p.1.b⟩, p.2) 1 (.int .i64 r.1.n) (at_ (⟨r.1.k, p.1.n, p.1.s, p.1.x0, p.1.y0, p.1.x1, p.1.y1, p.1.b⟩, p.2)) (by omega) rfl
  have e2 := cV_set _ q _ (⟨r.1.k, r.1.n, r.1.s, p.1.x0, p.1.y0, p.1.x1, p.1.y1, p.1.b⟩, p.2) 2 (.string r.1.s) (at_ (⟨r.1.k, r.1.n, p.1.s, p.1.x0, p.1.y0, p.1.x1, p.1.y1, p.1.b⟩, p.2)) (by omega) rfl
  have e3 := cV_set _ q _ (⟨r.1.k, r.1.n, r.1.s, r.1.x0, p.1.y0, p.1.x1, p.1.y1, p.1.b⟩, p.2) 3 (.int .i64 r.1.x0) (at_ (⟨r.1.k, r.1.n, r.1.s, p.1.x0, p.1.y0, p.1.x1, p.1.y1, p.1.b⟩, p.2)) (by omega) rfl
  have e4 := cV_set _ q _ (⟨r.1.k, r.1.n, r.1.s, r.1.x0, r.1.y0, p.1.x1, p.1.y1, p.1.b⟩, p.2) 4 (.int .i64 r.1.y0) (at_ (⟨r.1.k, r.1.n, r.1.s, r.1.x0, p.1.y0, p.1.x1, p.1.y1, p.1.b⟩, p.2)) (by omega) rfl
  have e5 := cV_set _ q _ (⟨r.1.k, r.1.n, r.1.s, r.1.x0, r.1.y0, r.1.x1, p.1.y1, p.1.b⟩, p.2) 5 (.int .i64 r.1.x1) (at_ (⟨r.1.k, r.1.n, r.1.s, r.1.x0, r.1.y0, p.1.x1, p.1.y1, p.1.b⟩, p.2)) (by omega) rfl
  have e6 := cV_set _ q _ (⟨r.1.k, r.1.n, r.1.s, r.1.x0, r.1.y0, r.1.x1, r.1.y1, p.1.b⟩, p.2) 6 (.int .i64 r.1.y1) (at_ (⟨r.1.k, r.1.n, r.1.s, r.1.x0, r.1.y0, r.1.x1, p.1.y1, p.1.b⟩, p.2)) (by omega) rfl
  have e7 := cV_set _ q _ r 7 r.2 (at_ (⟨r.1.k, r.1.n, r.1.s, r.1.x0, r.1.y0, r.1.x1, r.1.y1, p.1.b⟩, p.2)) (by omega) rfl
  simp only [List.set_set] at e1 e2 e3 e4 e5 e6 e7
  have k := own_set (own_set (own_set (own_set (own_set (own_set (own_set (own_set h (q * 8 + 0) (.int .i64 r.1.k)) (q * 8 + 1) (.int .i64 r.1.n)) (q * 8 + 2) (.string r.1.s)) (q * 8 + 3) (.int .i64 r.1.x0)) (q * 8 + 4) (.int .i64 r.1.y0)) (q * 8 + 5) (.int .i64 r.1.x1)) (q * 8 + 6) (.int .i64 r.1.y1)) (q * 8 + 7) r.2
  rw [e0, e1, e2, e3, e4, e5, e6, e7] at k
  unfold OwV
  rw [List.length_set]
  exact k
theorem OkL.set {f : List UInt8} {l : List Av} (h : OkL f l) : ∀ {q : Nat} {c : UInt8} {v : Av}, f[q]? = some c → okA c v → OkL f (l.set q v) := by
  induction h with
  | nil => intro q c v hq; simp at hq
  | cons h t ih =>
    intro q c v hq hv
    cases q with
    | zero => simp at hq; subst hq; exact .cons hv t
    | succ q => exact .cons h (ih (by simpa using hq) hv)
theorem OkL.at {f : List UInt8} {l : List Av} (h : OkL f l) : ∀ {q : Nat} {c : UInt8} {v : Av}, f[q]? = some c → l[q]? = some v → okA c v := by
  induction h with
  | nil => intro q c v hq; simp at hq
  | cons h t ih =>
    intro q c v hq hv
    cases q with
    | zero => simp at hq hv; subst hq hv; exact h
    | succ q => exact ih (by simpa using hq) (by simpa using hv)
theorem OkL.len {f : List UInt8} {l : List Av} (h : OkL f l) : l.length = f.length := by
  induction h with
  | nil => rfl
  | cons _ _ ih => simp [ih]
/-- Arguments that are the same but for their numbers. -/
def Nums (l m : List Av) : Prop := ∀ (k : Nat) (a b : Av), l[k]? = some a → m[k]? = some b → b = ({ a with n := b.n } : Av)
theorem Nums.refl (l : List Av) : Nums l l := fun k a b ha hb => by rw [ha] at hb; cases hb; rfl
theorem Nums.set {l : List Av} {q : Nat} {a : Av} (h : l[q]? = some a) (m : Int) : Nums l (l.set q ({ a with n := m } : Av)) := fun k x y hx hy => by
  by_cases hk : q = k
  · subst hk
    rw [h] at hx; cases hx
    rw [List.getElem?_set_self (by rcases Nat.lt_or_ge q l.length with h' | h'; exact h'; rw [List.getElem?_eq_none h'] at h; cases h)] at hy
    cases hy; rfl
  · rw [List.getElem?_set_ne hk, hx] at hy
    cases hy; rfl
/-- The numbers of the first arguments are the same. -/
def sameN : List Av → List Av → Bool
  | a :: l, b :: m => decide (a.n = b.n) && sameN l m
  | _, _ => true
theorem sameN_snoc : ∀ (l m : List Av) (k : Nat) (a b : Av), l[k]? = some a → m[k]? = some b → sameN (l.take (k + 1)) (m.take (k + 1)) = (sameN (l.take k) (m.take k) && decide (a.n = b.n))
  | [], _, k, a, b, h, _ => by simp at h
  | _ :: _, [], k, a, b, _, h => by simp at h
  | x :: l, y :: m, 0, a, b, h1, h2 => by
    simp at h1 h2; subst h1 h2
    simp [sameN]
  | x :: l, y :: m, k + 1, a, b, h1, h2 => by
    have i := sameN_snoc l m k a b (by simpa using h1) (by simpa using h2)
    simp only [List.take_succ_cons, sameN]
    rw [i, Bool.and_assoc]
theorem sameN_iff : ∀ (l m : List Av), l.length = m.length → Nums l m → (sameN l m = true ↔ l = m)
  | [], [], _, _ => by simp [sameN]
  | [], _ :: _, h, _ => by simp at h
  | _ :: _, [], h, _ => by simp at h
  | a :: l, b :: m, h, hn => by
    have i := sameN_iff l m (by simpa using h) (fun k x y hx hy => hn (k + 1) x y (by simpa using hx) (by simpa using hy))
    have hb := hn 0 a b rfl rfl
    simp only [sameN, Bool.and_eq_true, decide_eq_true_iff]
    rw [i]
    constructor
    · rintro ⟨h1, h2⟩
      rw [hb, ← h1, h2]
    · intro h
      injection h with h1 h2
      exact ⟨by rw [h1], h2⟩
theorem set_self {α : Type} {l : List α} {q : Nat} {a : α} (h : l[q]? = some a) : l.set q a = l := by
  apply List.ext_getElem?
  intro k
  by_cases hk : q = k
  · subst hk
    rw [List.getElem?_set_self (by rcases Nat.lt_or_ge q l.length with h' | h'; exact h'; rw [List.getElem?_eq_none h'] at h; cases h), h]
  · rw [List.getElem?_set_ne hk]
theorem strOf_inj {a b : List Int} (ha : By a) (hb : By b) (h : strOfNums a = strOfNums b) : a = b := by
  have e := congrArg (fun s : ByteArray => s.data.toList) h
  simp only [strOfNums_data] at e
  have len : a.length = b.length := by simpa using congrArg List.length e
  apply List.ext_getElem len
  intro i h1 h2
  have k := congrArg (fun l : List UInt8 => l[i]?) e
  simp only [List.getElem?_map, List.getElem?_eq_getElem h1, List.getElem?_eq_getElem h2, Option.map_some, Option.some.injEq] at k
  have k' := congrArg UInt8.toNat k
  have x := ha _ (List.getElem_mem h1)
  have y := hb _ (List.getElem_mem h2)
  simp only [UInt8.toNat_ofNat'] at k'
  omega
theorem rem_at (a : Int) (n : Nat) (hn : 0 < n) : ∃ q : Nat, q < n ∧ max (a.tmod n) (-(a.tmod n)) = q ∧ -(n : Int) < a.tmod n ∧ a.tmod n < n := by
  have h1 := Int.tmod_lt_of_pos a (show (0 : Int) < n by omega)
  have h2 : -(n : Int) < a.tmod n := by
    have := Int.tmod_lt_of_pos (-a) (show (0 : Int) < n by omega)
    rw [Int.neg_tmod] at this
    omega
  exact ⟨(max (a.tmod n) (-(a.tmod n))).toNat, by omega, by omega, h2, h1⟩

set_option maxRecDepth 100000 in
set_option maxHeartbeats 16000000 in
theorem apart_core (s0 : ByteArray) (hs0 : s0.size ≤ maxLen) (A1 : Option Addr) (c1 : Nat) (X1 : List (Av × Value)) (k0 m0 : Int) (_hk0 : I64 k0) (_hm0 : I64 m0) (w : World) (hX1 : Vv w A1 X1) (hl1 : X1.length ≤ maxLen) (hby1 : ∀ p ∈ X1, By p.1.b) :
    Calls Tryd.prog 7 #[.string s0, .slice A1 X1.length c1, .int .i64 k0, .int .i64 m0] w fun e w' => e = .returned (.bool true) ∧ Bl w w' := by
  have hsm : (s0.size : Int) ≤ 9223372036854775807 := by unfold maxLen at hs0; omega
  have cf := fun V (g : Bl w V) => fewV1 A1 c1 X1 V (hX1.bl g) hl1
  have hfl : (fewL (X1.map Prod.fst)).length ≤ 10 := by unfold fewL; rw [List.length_map, List.length_take]; omega
  have hfb := fewL_by (X1.map Prod.fst) (fun v hv => by obtain ⟨p, hp, rfl⟩ := List.mem_map.1 hv; exact hby1 p hp)
  generalize fewL (X1.map Prod.fst) = F1 at *
  generalize X1.length = n1 at *
  replace hfl := Lib.hid hfl
  replace cf := Lib.hid cf
  replace hfb := Lib.hid hfb
  clear hX1 hl1 hby1
  have cl := letters1 s0 w hs0
  go_enter Tryd.func7, Tryd.ntmps7
  go_wp2_with fail
  refine cl.mono ?_
  rintro e w3 ⟨T, rfl, hT, g3⟩
  clear cl
  have hTl : T.data.toList.length ≤ 8 := by rw [hT, lets_len, List.length_take]; omega
  have hTs : T.size ≤ 8 := hTl
  have hTf : formR T.data.toList = true := by rw [hT]; exact lets_form _
  have hTB : formB T.data.toList = true := by unfold formB; rw [hTf]; simpa using hTl
  have hTm := formR_mem _ hTf
  replace hT := Lib.hid hT
  replace hTl := Lib.hid hTl
  replace hTf := Lib.hid hTf
  replace hTB := Lib.hid hTB
  replace hTm := Lib.hid hTm
  go_wp2_with fail
  refine (cf.out _ g3).mono ?_
  rintro e w5 ⟨A5, c5, X5, rfl, hX5, own5, hsv5, g5⟩
  have hn5 : X5.length ≤ 10 := by have := congrArg List.length hX5; rw [List.length_map] at this; have := hfl.out; omega
  have hv5 := own5.vv fun p hp => (hsv5 p hp).bl g5
  have cg := goodG T A5 c5 X5 w5 hv5 (by omega) (by omega) hTm.out
  rw [hX5] at cg
  obtain ⟨F2, hF2⟩ : ∃ l, l = goodL T.data.toList F1 := ⟨_, rfl⟩
  have hok : OkL T.data.toList F2 := by rw [hF2]; exact goodL_ok T.data.toList F1 hTm.out
  have hgb : ∀ v ∈ F2, By v.b := by rw [hF2]; exact goodL_by T.data.toList F1 hfb.out
  have hgl : F2.length = T.size := hok.len
  rw [← hF2] at cg
  clear own5 hsv5 hv5
  obtain ⟨n5, hn5e⟩ : ∃ n, n = X5.length := ⟨_, rfl⟩
  rw [← hn5e] at cg hn5 ⊢
  replace hn5e := Lib.hid hn5e
  replace hX5 := Lib.hid hX5
  replace hF2 := Lib.hid hF2
  replace hok := Lib.hid hok
  replace hgb := Lib.hid hgb
  replace hgl := Lib.hid hgl
  go_wp2_with fail
  refine cg.mono ?_
  rintro e w6 ⟨A6, c6, X6, rfl, hX6, own6, hsv6, g6⟩
  have hn6 : X6.length = T.size := by have := congrArg List.length hX6; rw [List.length_map, hgl.out] at this; exact this
  have hv6 := own6.vv fun p hp => (hsv6 p hp).bl g6
  have G6 : Bl w w6 := g3.trans (g5.trans g6)
  clear cg own6 hsv6
  obtain ⟨n, hn⟩ : ∃ n, n = T.size := ⟨_, rfl⟩
  have hn8 : n ≤ 8 := by omega
  rw [hn6, ← hn]
  rw [← hn] at hn6
  replace hX6 := Lib.hid hX6
  replace hv6 := Lib.hid hv6
  replace hn6 := Lib.hid hn6
  replace hn := Lib.hid hn
  go_wp2_with fail
  refine (cf.out _ G6).mono ?_
  rintro e w7 ⟨A7, c7, X7, rfl, hX7, own7, hsv7, g7⟩
  have hn7 : X7.length ≤ 10 := by have := congrArg List.length hX7; rw [List.length_map] at this; have := hfl.out; omega
  have hv7 := own7.vv fun p hp => (hsv7 p hp).bl g7
  have cg := goodG T A7 c7 X7 w7 hv7 (by omega) (by omega) hTm.out
  rw [hX7, ← hF2.out] at cg
  clear own7 hsv7 hv7
  obtain ⟨n7, hn7e⟩ : ∃ n, n = X7.length := ⟨_, rfl⟩
  rw [← hn7e] at cg hn7 ⊢
  replace hn7e := Lib.hid hn7e
  replace hX7 := Lib.hid hX7
  go_wp2_with fail
  refine cg.mono ?_
  rintro e w8 ⟨A8, c8', Y8, rfl, hY8, own8, hsv8, g8'⟩
  have hny : Y8.length = n := by have := congrArg List.length hY8; rw [List.length_map, hgl.out] at this; rw [hn.out]; exact this
  rw [hny]
  have G7 : Bl w w7 := G6.trans g7
  have hv7x : Vv w7 A6 X6 := hv6.out.bl g7
  clear cg cf
  replace hny := Lib.hid hny
  replace hY8 := Lib.hid hY8
  replace own8 := Lib.hid own8
  replace hsv8 := Lib.hid hsv8
  replace hv7x := Lib.hid hv7x
  go_upto_if 31 with fail
  go_cut [12] (fun _ wx => ∃ Y, OwV wx w7.heap.size A8 c8' Y ∧ (∀ p ∈ Y, Sv w7 p.2 p.1.b) ∧ Y.length = n ∧ OkL T.data.toList (Y.map Prod.fst) ∧ Nums F2 (Y.map Prod.fst) ∧ Bl w7 wx)
  case first =>
    by_cases hz : n = 0
    · have q1 : ¬ 0 < (n : Int) := by omega
      replace hz := Lib.hid hz
      go_wp2
      go_meet
      exact ⟨Y8, own8.out, hsv8.out, hny.out, by rw [hY8.out]; exact hok.out, by rw [hY8.out]; exact Nums.refl _, g8'⟩
    · have q1 : 0 < (n : Int) := by omega
      obtain ⟨q, hq, hqe, hr1, hr2⟩ := rem_at k0 n (by omega)
      have hne : ¬ (n : Int) = 0 := by omega
      have hwr : IntKind.i64.wrap (-(k0.tmod n)) = -(k0.tmod n) := IntWalk.i64_in _ (by omega)
      have hqn : (q : Int) < n := by omega
      have hqT : q < T.size := by rw [← hn.out]; exact hq
      have hqT2 : (q : Int) < (T.size : Int) := by omega
      have hc := letter_at T hqT
      have hm5 := hTm.out T[q] (List.mem_of_getElem? hc)
      have hb8 : (T[q].toNat : Int) < 256 := by have := T[q].toNat_lt; omega
      obtain ⟨g, rfl, hg1, hg2⟩ : ∃ g, A8 = some ⟨g, 0, none⟩ ∧ w7.heap.size ≤ g ∧ g < w8.heap.size := by
        rcases own_addr own8.out with ⟨_, _, h⟩ | h
        · rw [hny.out] at h; exact absurd h hz
        · exact h
      obtain ⟨b6, o6, px, rfl, hpx, hcx, hsvx⟩ := hv7x.out.at (k := q) (by rw [hn6.out]; exact hq)
      obtain ⟨py, hpy⟩ := list_at (l := Y8) (k := q) (by rw [hny.out]; exact hq)
      have hpe : py.1 = px.1 := by
        have h1 : (Y8.map Prod.fst)[q]? = some py.1 := by rw [List.getElem?_map, hpy]; rfl
        have h2 : (X6.map Prod.fst)[q]? = some px.1 := by rw [List.getElem?_map, hpx]; rfl
        rw [hY8.out] at h1
        rw [hX6.out] at h2
        rw [h1] at h2
        exact Option.some.inj h2
      have hF2q : F2[q]? = some px.1 := by rw [← hX6.out, List.getElem?_map, hpx]; rfl
      have hokq := hok.out.at hc hF2q
      have t1 := tmodS m0
      obtain ⟨t10, t11⟩ := t1
      have hF0 := own_set own8.out
      have fr8 := World.ownsRow.frozenAt own8.out (q * 8 + 1)
      have ce8 : w8.cell? ⟨g, q * 8 + 1, none⟩ = some (.int .i64 py.1.n) := (World.ownsRow.cellAt own8.out (q * 8 + 1) (by rw [hny.out]; omega)).trans (cV_get Y8 q py 1 hpy (by omega))
      have own9 := OwV.putN own8.out hpy (m0.tmod 2147483648)
      have G9 : Bl w7 (w8.setCell ⟨g, q * 8 + 1, none⟩ (.int .i64 (m0.tmod 2147483648))) := g8'.setCell (p := ⟨g, q * 8 + 1, none⟩) hg1 _
      replace own9 := Lib.hid own9
      replace G9 := Lib.hid G9
      clear hF0
      go_upto_if 49 with fail
      clear fr8 ce8 own8 g8'
      generalize w8.setCell ⟨g, q * 8 + 1, none⟩ (.int .i64 (m0.tmod 2147483648)) = W9 at own9 G9 ⊢
      generalize m0.tmod 2147483648 = m1 at *
      have hw1 : IntKind.i64.wrap (-m1) = -m1 := IntWalk.i64_in _ (by omega)
      have hp9 : (Y8.set q (({ py.1 with n := m1 } : Av), py.2))[q]? = some (({ py.1 with n := m1 } : Av), py.2) := List.getElem?_set_self (by rw [hny.out]; exact hq)
      have hlen9 : (Y8.set q (({ py.1 with n := m1 } : Av), py.2)).length = n := by rw [List.length_set, hny.out]
      have hsv9 : ∀ r : Av × Value, Sv w7 r.2 r.1.b → ∀ p ∈ Y8.set q r, Sv w7 p.2 p.1.b := fun r hr p hp => by
        rcases List.mem_or_eq_of_mem_set hp with h | h
        · exact hsv8.out p h
        · rw [h]; exact hr
      have hmap : ∀ r : Av × Value, (Y8.set q r).map Prod.fst = F2.set q r.1 := fun r => by rw [List.map_set, hY8.out]
      have hpysv : Sv w7 py.2 py.1.b := hsv8.out py (List.mem_of_getElem? hpy)
      have fr9 := World.ownsRow.frozenAt own9.out (q * 8 + 1)
      have ce9 : W9.cell? ⟨g, q * 8 + 1, none⟩ = some (.int .i64 m1) := (World.ownsRow.cellAt own9.out (q * 8 + 1) (by rw [hlen9]; omega)).trans (cV_get _ q _ 1 hp9 (by omega))
      have G10 : Bl w7 (W9.setCell ⟨g, q * 8 + 1, none⟩ (.int .i64 (max m1 (-m1)))).drew := (G9.out.setCell (p := ⟨g, q * 8 + 1, none⟩) hg1 _).drew
      have own10 := (OwV.putN own9.out hp9 (max m1 (-m1))).bl ((Bl.refl _).drew)
      dsimp only at own10
      rw [List.set_set] at own10
      replace own10 := Lib.hid own10
      replace G10 := Lib.hid G10
      replace hpysv := Lib.hid hpysv
      replace hsv9 := Lib.hid hsv9
      replace hmap := Lib.hid hmap
      replace hp9 := Lib.hid hp9
      replace hlen9 := Lib.hid hlen9
      replace hc := Lib.hid hc
      replace hpx := Lib.hid hpx
      replace hpy := Lib.hid hpy
      replace hF2q := Lib.hid hF2q
      have hpe := Lib.hid hpe
      have hcx := Lib.hid hcx
      have hsvx := Lib.hid (show Sv w7 px.2 px.1.b from hsvx)
      have hokq := Lib.hid hokq
      have hlit : ∀ x : UInt8, T[q] = x → (T[q].toNat : Int) = x.toNat := fun x h => by rw [h]
      replace hlit := Lib.hid hlit
      rcases hm5 with h5 | h5 | h5 | h5 | h5
      · have e1 := hlit.out 105 h5
        simp only [UInt8.reduceToNat] at e1
        replace h5 := Lib.hid h5
        go_wp2
        go_meet
        refine ⟨_, own9.out, hsv9.out _ hpysv.out, hlen9.out, ?_, ?_, G9.out⟩
        · rw [hmap.out]
          refine hok.out.set hc.out (.inl ⟨h5.out, m1, ?_, by unfold small; omega⟩)
          obtain ⟨_, z, hz, _⟩ | ⟨h, _⟩ | ⟨h, _⟩ | ⟨h, _⟩ | ⟨h, _⟩ := hokq.out
          · dsimp only; rw [hpe.out, hz]; rfl
          all_goals (rw [h5.out] at h; exact absurd h (by decide))
        · rw [hmap.out, hpe.out]; exact Nums.set hF2q.out m1
      · have e1 := hlit.out 117 h5
        simp only [UInt8.reduceToNat] at e1
        replace h5 := Lib.hid h5
        go_wp2
        go_still_tail 16, (by kernel_rfl)
        go_wp2
        go_meet
        refine ⟨_, own10.out, hsv9.out _ hpysv.out, by rw [List.length_set, hny.out], ?_, ?_, G10.out⟩
        · rw [hmap.out]
          refine hok.out.set hc.out (.inr (.inl ⟨h5.out, max m1 (-m1), ?_, by omega, by omega⟩))
          obtain ⟨h, _⟩ | ⟨_, z, hz, _⟩ | ⟨h, _⟩ | ⟨h, _⟩ | ⟨h, _⟩ := hokq.out
          rotate_left
          · dsimp only; rw [hpe.out, hz]; rfl
          all_goals (rw [h5.out] at h; exact absurd h (by decide))
        · rw [hmap.out, hpe.out]; exact Nums.set hF2q.out _
      · have e1 := hlit.out 115 h5
        simp only [UInt8.reduceToNat] at e1
        replace h5 := Lib.hid h5
        go_wp2
        go_still_tail 16, (by kernel_rfl)
        go_upto_if 75 with fail
        generalize (W9.setCell ⟨g, q * 8 + 1, none⟩ (.int .i64 (max m1 (-m1)))).drew = W10 at own10 G10 ⊢
        have hp10 : (Y8.set q (({ py.1 with n := max m1 (-m1) } : Av), py.2))[q]? = some (({ py.1 with n := max m1 (-m1) } : Av), py.2) := List.getElem?_set_self (by rw [hny.out]; exact hq)
        have hl10 : (Y8.set q (({ py.1 with n := max m1 (-m1) } : Av), py.2)).length = n := by rw [List.length_set, hny.out]
        obtain ⟨k0', k1', k2', k3', k4', k5', k6', k7'⟩ := hcx.out.bl G10.out
        have own11 := OwV.putA own10.out hp10 px
        rw [List.set_set] at own11
        have G11 := ((((((((G10.out.setCell (p := ⟨g, q * 8, none⟩) hg1 (.int .i64 px.1.k)).setCell (p := ⟨g, q * 8 + 1, none⟩) hg1 (.int .i64 px.1.n)).setCell (p := ⟨g, q * 8 + 2, none⟩) hg1 (.string px.1.s)).setCell (p := ⟨g, q * 8 + 3, none⟩) hg1 (.int .i64 px.1.x0)).setCell (p := ⟨g, q * 8 + 4, none⟩) hg1 (.int .i64 px.1.y0)).setCell (p := ⟨g, q * 8 + 5, none⟩) hg1 (.int .i64 px.1.x1)).setCell (p := ⟨g, q * 8 + 6, none⟩) hg1 (.int .i64 px.1.y1)).setCell (p := ⟨g, q * 8 + 7, none⟩) hg1 px.2)
        have f0 : W10.frozen? ⟨g, q * 8, none⟩ = false := World.ownsRow.frozenAt own10.out (q * 8)
        have f1 := World.ownsRow.frozenAt own10.out (q * 8 + 1)
        have f2 := World.ownsRow.frozenAt own10.out (q * 8 + 2)
        have f3 := World.ownsRow.frozenAt own10.out (q * 8 + 3)
        have f4 := World.ownsRow.frozenAt own10.out (q * 8 + 4)
        have f5 := World.ownsRow.frozenAt own10.out (q * 8 + 5)
        have f6 := World.ownsRow.frozenAt own10.out (q * 8 + 6)
        have f7 := World.ownsRow.frozenAt own10.out (q * 8 + 7)
        have z : ∀ j (u : Value), j < 8 → (c8 (({ py.1 with n := max m1 (-m1) } : Av), py.2))[j]? = some u → W10.cell? ⟨g, q * 8 + j, none⟩ = some u := fun j u hj hu => ((World.ownsRow.cellAt own10.out (q * 8 + j) (by rw [hl10]; omega)).trans (cV_get _ q _ j hp10 hj)).trans hu
        have z0 : W10.cell? ⟨g, q * 8, none⟩ = _ := z 0 _ (by omega) rfl
        have z1 := z 1 _ (by omega) rfl
        have z2 := z 2 _ (by omega) rfl
        have z3 := z 3 _ (by omega) rfl
        have z4 := z 4 _ (by omega) rfl
        have z5 := z 5 _ (by omega) rfl
        have z6 := z 6 _ (by omega) rfl
        have z7 := z 7 _ (by omega) rfl
        dsimp only at z0 z1 z2 z3 z4 z5 z6 z7
        obtain ⟨Ax, cx, hxv, _⟩ := hsvx.out
        rw [hxv] at k7' own11 G11
        replace own11 := Lib.hid own11
        replace hxv := Lib.hid hxv
        replace G11 := Lib.hid G11
        clear z own10 G10 fr9 ce9 own9 G9 hp10 hl10
        go_wp2
        go_meet
        refine ⟨_, own11.out, hsv9.out _ hsvx.out, by rw [List.length_set, hny.out], ?_, ?_, G11.out⟩
        · rw [hmap.out]; exact hok.out.set hc.out hokq.out
        · rw [hmap.out, set_self hF2q.out]; exact Nums.refl _
      · have e1 := hlit.out 114 h5
        simp only [UInt8.reduceToNat] at e1
        replace h5 := Lib.hid h5
        go_wp2
        go_still_tail 16, (by kernel_rfl)
        go_upto_if 75 with fail
        generalize (W9.setCell ⟨g, q * 8 + 1, none⟩ (.int .i64 (max m1 (-m1)))).drew = W10 at own10 G10 ⊢
        have hp10 : (Y8.set q (({ py.1 with n := max m1 (-m1) } : Av), py.2))[q]? = some (({ py.1 with n := max m1 (-m1) } : Av), py.2) := List.getElem?_set_self (by rw [hny.out]; exact hq)
        have hl10 : (Y8.set q (({ py.1 with n := max m1 (-m1) } : Av), py.2)).length = n := by rw [List.length_set, hny.out]
        obtain ⟨k0', k1', k2', k3', k4', k5', k6', k7'⟩ := hcx.out.bl G10.out
        have own11 := OwV.putA own10.out hp10 px
        rw [List.set_set] at own11
        have G11 := ((((((((G10.out.setCell (p := ⟨g, q * 8, none⟩) hg1 (.int .i64 px.1.k)).setCell (p := ⟨g, q * 8 + 1, none⟩) hg1 (.int .i64 px.1.n)).setCell (p := ⟨g, q * 8 + 2, none⟩) hg1 (.string px.1.s)).setCell (p := ⟨g, q * 8 + 3, none⟩) hg1 (.int .i64 px.1.x0)).setCell (p := ⟨g, q * 8 + 4, none⟩) hg1 (.int .i64 px.1.y0)).setCell (p := ⟨g, q * 8 + 5, none⟩) hg1 (.int .i64 px.1.x1)).setCell (p := ⟨g, q * 8 + 6, none⟩) hg1 (.int .i64 px.1.y1)).setCell (p := ⟨g, q * 8 + 7, none⟩) hg1 px.2)
        have f0 : W10.frozen? ⟨g, q * 8, none⟩ = false := World.ownsRow.frozenAt own10.out (q * 8)
        have f1 := World.ownsRow.frozenAt own10.out (q * 8 + 1)
        have f2 := World.ownsRow.frozenAt own10.out (q * 8 + 2)
        have f3 := World.ownsRow.frozenAt own10.out (q * 8 + 3)
        have f4 := World.ownsRow.frozenAt own10.out (q * 8 + 4)
        have f5 := World.ownsRow.frozenAt own10.out (q * 8 + 5)
        have f6 := World.ownsRow.frozenAt own10.out (q * 8 + 6)
        have f7 := World.ownsRow.frozenAt own10.out (q * 8 + 7)
        have z : ∀ j (u : Value), j < 8 → (c8 (({ py.1 with n := max m1 (-m1) } : Av), py.2))[j]? = some u → W10.cell? ⟨g, q * 8 + j, none⟩ = some u := fun j u hj hu => ((World.ownsRow.cellAt own10.out (q * 8 + j) (by rw [hl10]; omega)).trans (cV_get _ q _ j hp10 hj)).trans hu
        have z0 : W10.cell? ⟨g, q * 8, none⟩ = _ := z 0 _ (by omega) rfl
        have z1 := z 1 _ (by omega) rfl
        have z2 := z 2 _ (by omega) rfl
        have z3 := z 3 _ (by omega) rfl
        have z4 := z 4 _ (by omega) rfl
        have z5 := z 5 _ (by omega) rfl
        have z6 := z 6 _ (by omega) rfl
        have z7 := z 7 _ (by omega) rfl
        dsimp only at z0 z1 z2 z3 z4 z5 z6 z7
        obtain ⟨Ax, cx, hxv, _⟩ := hsvx.out
        rw [hxv] at k7' own11 G11
        replace own11 := Lib.hid own11
        replace hxv := Lib.hid hxv
        replace G11 := Lib.hid G11
        clear z own10 G10 fr9 ce9 own9 G9 hp10 hl10
        go_wp2
        go_meet
        refine ⟨_, own11.out, hsv9.out _ hsvx.out, by rw [List.length_set, hny.out], ?_, ?_, G11.out⟩
        · rw [hmap.out]; exact hok.out.set hc.out hokq.out
        · rw [hmap.out, set_self hF2q.out]; exact Nums.refl _
      · have e1 := hlit.out 98 h5
        simp only [UInt8.reduceToNat] at e1
        replace h5 := Lib.hid h5
        go_wp2
        go_still_tail 16, (by kernel_rfl)
        go_upto_if 75 with fail
        generalize (W9.setCell ⟨g, q * 8 + 1, none⟩ (.int .i64 (max m1 (-m1)))).drew = W10 at own10 G10 ⊢
        have hp10 : (Y8.set q (({ py.1 with n := max m1 (-m1) } : Av), py.2))[q]? = some (({ py.1 with n := max m1 (-m1) } : Av), py.2) := List.getElem?_set_self (by rw [hny.out]; exact hq)
        have hl10 : (Y8.set q (({ py.1 with n := max m1 (-m1) } : Av), py.2)).length = n := by rw [List.length_set, hny.out]
        obtain ⟨k0', k1', k2', k3', k4', k5', k6', k7'⟩ := hcx.out.bl G10.out
        have own11 := OwV.putA own10.out hp10 px
        rw [List.set_set] at own11
        have G11 := ((((((((G10.out.setCell (p := ⟨g, q * 8, none⟩) hg1 (.int .i64 px.1.k)).setCell (p := ⟨g, q * 8 + 1, none⟩) hg1 (.int .i64 px.1.n)).setCell (p := ⟨g, q * 8 + 2, none⟩) hg1 (.string px.1.s)).setCell (p := ⟨g, q * 8 + 3, none⟩) hg1 (.int .i64 px.1.x0)).setCell (p := ⟨g, q * 8 + 4, none⟩) hg1 (.int .i64 px.1.y0)).setCell (p := ⟨g, q * 8 + 5, none⟩) hg1 (.int .i64 px.1.x1)).setCell (p := ⟨g, q * 8 + 6, none⟩) hg1 (.int .i64 px.1.y1)).setCell (p := ⟨g, q * 8 + 7, none⟩) hg1 px.2)
        have f0 : W10.frozen? ⟨g, q * 8, none⟩ = false := World.ownsRow.frozenAt own10.out (q * 8)
        have f1 := World.ownsRow.frozenAt own10.out (q * 8 + 1)
        have f2 := World.ownsRow.frozenAt own10.out (q * 8 + 2)
        have f3 := World.ownsRow.frozenAt own10.out (q * 8 + 3)
        have f4 := World.ownsRow.frozenAt own10.out (q * 8 + 4)
        have f5 := World.ownsRow.frozenAt own10.out (q * 8 + 5)
        have f6 := World.ownsRow.frozenAt own10.out (q * 8 + 6)
        have f7 := World.ownsRow.frozenAt own10.out (q * 8 + 7)
        have z : ∀ j (u : Value), j < 8 → (c8 (({ py.1 with n := max m1 (-m1) } : Av), py.2))[j]? = some u → W10.cell? ⟨g, q * 8 + j, none⟩ = some u := fun j u hj hu => ((World.ownsRow.cellAt own10.out (q * 8 + j) (by rw [hl10]; omega)).trans (cV_get _ q _ j hp10 hj)).trans hu
        have z0 : W10.cell? ⟨g, q * 8, none⟩ = _ := z 0 _ (by omega) rfl
        have z1 := z 1 _ (by omega) rfl
        have z2 := z 2 _ (by omega) rfl
        have z3 := z 3 _ (by omega) rfl
        have z4 := z 4 _ (by omega) rfl
        have z5 := z 5 _ (by omega) rfl
        have z6 := z 6 _ (by omega) rfl
        have z7 := z 7 _ (by omega) rfl
        dsimp only at z0 z1 z2 z3 z4 z5 z6 z7
        obtain ⟨Ax, cx, hxv, _⟩ := hsvx.out
        rw [hxv] at k7' own11 G11
        replace own11 := Lib.hid own11
        replace hxv := Lib.hid hxv
        replace G11 := Lib.hid G11
        clear z own10 G10 fr9 ce9 own9 G9 hp10 hl10
        go_wp2
        go_meet
        refine ⟨_, own11.out, hsv9.out _ hsvx.out, by rw [List.length_set, hny.out], ?_, ?_, G11.out⟩
        · rw [hmap.out]; exact hok.out.set hc.out hokq.out
        · rw [hmap.out, set_self hF2q.out]; exact Nums.refl _
  case rest =>
    obtain ⟨Y, own, hsv, hYn, hokY, hnum, gx⟩ := hcut
    have hvy := own.vv fun p hp => (hsv p hp).bl gx
    have hvx := hv7x.out.bl gx
    have hbyY : ∀ v ∈ Y.map Prod.fst, By v.b := fun v hv => by
      obtain ⟨k, hk⟩ := List.getElem?_of_mem hv
      have hkl : k < F2.length := by
        rw [hok.out.len, ← hokY.len]
        rcases Nat.lt_or_ge k (Y.map Prod.fst).length with h' | h'
        · exact h'
        · rw [List.getElem?_eq_none h'] at hk; cases hk
      obtain ⟨a, ha⟩ := list_at hkl
      rw [hnum k a v ha hk]
      exact hgb.out a (List.mem_of_getElem? ha)
    obtain ⟨FY, hFY⟩ : ∃ l, l = Y.map Prod.fst := ⟨_, rfl⟩
    rw [← hFY] at hokY hnum hbyY
    have hFn : F2.length = n := by rw [hgl.out, hn.out]
    have hFYn : FY.length = n := by rw [hFY, List.length_map, hYn]
    have hfl8 : F2.length ≤ 8 := by omega
    have hfy8 : FY.length ≤ 8 := by omega
    have hiff := sameN_iff F2 FY (by omega) hnum
    have calx := fun V (g : Bl wc V) => all1 A6 c6 X6 V (hvx.bl g) (by have := hn6.out; omega)
    have caly := fun V (g : Bl wc V) => all1 A8 c8' Y V (hvy.bl g) (by omega)
    rw [hX6.out, hn6.out] at calx
    rw [hYn, ← hFY] at caly
    obtain ⟨bx, hbx, hbxl, _⟩ := round T.data.toList F2 [] hTf.out hok.out
    obtain ⟨by', hby, hbyl, _⟩ := round T.data.toList FY [] hTf.out hokY
    have hbxb := pk_by T.data.toList _ bx hgb.out hbx
    have hbyb := pk_by T.data.toList _ by' hbyY hby
    have hpk : ∀ (F : List Av) (b : List Int), F.length = n → pkA [] T.data.toList F = some b → b.length ≤ 256 * T.data.toList.length → pkR T.data.toList F = (b, 0) := fun F b hF hb hl => by
      unfold pkR
      rw [if_pos ⟨hTB.out, by rw [hF, hn.out]; rfl⟩, hb]
      rw [show pkE (some b) = if 4096 < b.length then ([], 7) else (b, 0) from rfl, if_neg (by have := hTl.out; omega)]
    have hpx := hpk F2 bx hFn hbx hbxl
    have hpy := hpk FY by' hFYn hby hbyl
    have hinj : strOfNums bx = strOfNums by' ↔ F2 = FY := by
      constructor
      · intro h
        have := strOf_inj hbxb hbyb h
        exact pk_inj hTf.out hok.out hokY (by rw [hbx, hby, this])
      · intro h
        rw [h] at hbx
        rw [hbx] at hby
        rw [Option.some.inj hby]
    clear hpk hbx hby hbxb hbyb hbxl hbyl hbyY hv7x own hsv hsv8 own8 hY8 hgb
    have GC : Bl w wc := G7.trans gx
    replace hvy := Lib.hid hvy
    replace hvx := Lib.hid hvx
    replace hokY := Lib.hid hokY
    replace hnum := Lib.hid hnum
    replace hFY := Lib.hid hFY
    replace hFn := Lib.hid hFn
    replace hFYn := Lib.hid hFYn
    replace hfl8 := Lib.hid hfl8
    replace hfy8 := Lib.hid hfy8
    replace hiff := Lib.hid hiff
    replace calx := Lib.hid calx
    replace caly := Lib.hid caly
    replace hpx := Lib.hid hpx
    replace hpy := Lib.hid hpy
    replace hinj := Lib.hid hinj
    replace hYn := Lib.hid hYn
    go_wp2
    go_loopw [13, 14] (fun s i wr => ∃ k : Nat, k ≤ n ∧ i = .int .i64 ((k : Nat) : Int) ∧ s = .bool (sameN (F2.take k) (FY.take k)) ∧ Bl wc wr) (fun _ i _ => n - (intOf i).toNat)
    case atStart => exact ⟨0, Nat.zero_le _, rfl, by simp [sameN], Bl.refl _⟩
    case round =>
      obtain ⟨k, hk, rfl, rfl, J⟩ := hrel
      by_cases hlt : k < n
      · have q2 : (k : Int) < n := by omega
        obtain ⟨b6, o6, px, rfl, hpx6, hcx, hsx⟩ := (hvx.out.bl J).at (k := k) (by rw [hn6.out]; exact hlt)
        obtain ⟨b8, o8, py, rfl, hpy8, hcy, hsy⟩ := (hvy.out.bl J).at (k := k) (by rw [hYn.out]; exact hlt)
        have a1 : F2[k]? = some px.1 := by rw [← hX6.out, List.getElem?_map, hpx6]; rfl
        have a2 : FY[k]? = some py.1 := by rw [hFY.out, List.getElem?_map, hpy8]; rfl
        have hsn := sameN_snoc F2 FY k _ _ a1 a2
        have he := hnum.out k _ _ a1 a2
        clear hpx6 hpy8 a1 a2
        obtain ⟨py1, pyv⟩ := py
        obtain ⟨px1, pxv⟩ := px
        dsimp only at he hcx hcy hsx hsy hsn
        obtain ⟨m1, hm1⟩ : ∃ m, m = py1.n := ⟨_, rfl⟩
        rw [← hm1] at he hsn
        subst he
        have cs := fun W (g : Bl wr W) => same1 px1 m1 pxv pyv W (hsx.bl g) (hsy.bl g)
        obtain ⟨Ax, cx, hxv, _⟩ := hsx
        obtain ⟨Ay, cy, hyv, _⟩ := hsy
        subst hxv
        subst hyv
        dsimp only at cs hcy hcx
        obtain ⟨pk, pn, ps, px0, py0, px1', py1', pb⟩ := px1
        obtain ⟨E0, E1, E2, E3, E4, E5, E6, E7⟩ := hcx
        obtain ⟨F0, F1', F2', F3, F4, F5, F6, F7⟩ := hcy
        unfold g8 at cs
        dsimp only at cs E0 E1 E2 E3 E4 E5 E6 E7 F0 F1' F2' F3 F4 F5 F6 F7 hsn
        have Y0 := cell_regrown E0
        have Y1 := cell_regrown E1
        have Y2 := cell_regrown E2
        have Y3 := cell_regrown E3
        have Y4 := cell_regrown E4
        have Y5 := cell_regrown E5
        have Y6 := cell_regrown E6
        have Y7 := cell_regrown E7
        have Z0 := cell_regrown F0
        have Z1 := cell_regrown F1'
        have Z2 := cell_regrown F2'
        have Z3 := cell_regrown F3
        have Z4 := cell_regrown F4
        have Z5 := cell_regrown F5
        have Z6 := cell_regrown F6
        have Z7 := cell_regrown F7
        have cL := fun d os => Calls.regrown_of (cs (grow (redrawn wr d) os) (below_regrown wr d os))
        generalize pb.length = pbn at *
        generalize decide (pn = m1) = dn at *
        generalize sameN (F2.take k) (FY.take k) = sb at *
        replace hsn := Lib.hid hsn
        clear cs E0 E1 E2 E3 E4 E5 E6 E7 F0 F1' F2' F3 F4 F5 F6 F7 hm1
        cases sb with
        | false =>
          clear cL Y0 Y1 Y2 Y3 Y4 Y5 Y6 Y7 Z0 Z1 Z2 Z3 Z4 Z5 Z6 Z7
          go_wp2
          refine wp_region_quiet_below (by kernel_rfl) (by kernel_rfl) ?_
          repeat (first | go_big_quiet_step (fail) | quiet_step (fail))
          refine wpQuiet_nil ?_
          intro _ hw'
          obtain ⟨⟨dq, osq⟩, hw''⟩ := hw'
          subst hw''
          go_wp2
          go_roundw
          case rel => exact ⟨k + 1, by omega, by go_num, by rw [hsn.out]; rfl, J.trans (below_regrown wr dq osq)⟩
          case measure => simp [intOf]; omega
        | true =>
          go_wp2
          refine wp_region_quiet_below (by kernel_rfl) (by kernel_rfl) ?_
          repeat (first | go_big_quiet_step (exact cL _ _) | quiet_step (exact cL _ _))
          refine wpQuiet_nil ?_
          intro _ hw'
          obtain ⟨⟨dq, osq⟩, hw''⟩ := hw'
          subst hw''
          go_wp2
          go_roundw
          case rel => exact ⟨k + 1, by omega, by go_num, by rw [hsn.out]; rfl, J.trans (below_regrown wr dq osq)⟩
          case measure => simp [intOf]; omega
      · have q2 : ¬ (k : Int) < n := by omega
        rw [List.take_of_length_le (by rw [hFn.out]; omega), List.take_of_length_le (by rw [hFYn.out]; omega)]
        go_wp2_with fail
        refine (calx.out _ J).mono ?_
        rintro e w10 ⟨A10, c10, xs10, rfl, hy10, ha10, g10⟩
        have cp := apack1 T A10 c10 xs10 F2 w10 (by omega) (by have := hfl8.out; omega) hy10 ha10
        rw [hpx.out] at cp
        unfold PackQ at cp
        dsimp only at cp
        clear hy10 ha10
        generalize xs10.length = n10 at *
        go_wp2_with fail
        refine cp.mono ?_
        rintro e w11 ⟨A11, c11, rfl, hs11, g11⟩
        clear cp
        have J11 := J.trans (g10.trans g11)
        replace hs11 := Lib.hid hs11
        go_wp2_with fail
        refine (caly.out _ J11).mono ?_
        rintro e w12 ⟨A12, c12, xs12, rfl, hy12, ha12, g12⟩
        have cp := apack1 T A12 c12 xs12 FY w12 (by omega) (by have := hfy8.out; omega) hy12 ha12
        rw [hpy.out] at cp
        unfold PackQ at cp
        dsimp only at cp
        clear hy12 ha12
        generalize xs12.length = n12 at *
        go_wp2_with fail
        refine cp.mono ?_
        rintro e w13 ⟨A13, c13, rfl, hs13, g13⟩
        clear cp
        have tx := Sv.text (c := c11) (sv_nil (hs11.out.bl (g12.trans g13))).2.1
        have ty := Sv.text (c := c13) (sv_nil hs13).2.1
        have hin := hinj.out
        have hif := hiff.out
        generalize strOfNums bx = Sx at *
        generalize strOfNums by' = Sy at *
        generalize bx.length = lx at *
        generalize by'.length = ly at *
        have GG := (GC.trans J11).trans (g12.trans g13)
        have cl := fun V => livesA V
        generalize sameN F2 FY = sb at *
        cases sb with
        | false =>
          have hne : ¬ Sx.toList = Sy.toList := fun h => by
            rw [Lib.toList_data, Lib.toList_data] at h
            have hxy : Sx = Sy := by
              cases Sx; cases Sy
              congr 1
              exact Array.toList_inj.1 h
            have := hif.2 (hin.1 hxy)
            cases this
          clear hin hif hs13 hs11
          go_wp2_with fail
          refine (cl _).mono ?_
          rintro e w15 ⟨rfl, g15⟩
          go_wp2
          go_ret
          have hb8 : (Sx.toList == Sy.toList) = false := by simpa using hne
          refine ⟨?_, GG.trans g15⟩
          show Ending.returned (Value.bool (!(Sx.toList == Sy.toList))) = _
          rw [hb8]
          rfl
        | true =>
          obtain rfl := hin.2 (hif.1 rfl)
          clear hin hif hs13 hs11
          go_wp2_with fail
          refine (cl _).mono ?_
          rintro e w15 ⟨rfl, g15⟩
          go_wp2
          go_ret
          exact ⟨rfl, GG.trans g15⟩

end Go.Proofs.YtaebbkfbapajkaaDoor
