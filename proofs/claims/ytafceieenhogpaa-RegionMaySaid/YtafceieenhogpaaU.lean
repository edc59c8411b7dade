/-
  What is proved: what Union, Cut, Less, Other of package region hand back of two regions, and Of of any rectangles.
-/
import Derived.Test.YtafceieenhogpaaMe
import Derived.Test.YtafceieenhogpaaRa
import Derived.Deep.RegionHeld3
import Derived.IntWalk
namespace Go.Proofs.Ytafceieenhogpaa
open Go.RowKit Go.Sort

theorem union1 (A B : Option Addr) (c d : Nat) (a b : List Rc) (X Y : List Int) (w : World) (hA : Rs w A a) (hB : Rs w B b) (ra : IsReg a) (rb : IsReg b) (hX : Grid X Y) (ia : InR X Y a) (ib : InR X Y b) :
    Calls Try.prog 88 #[.slice A a.length c, .slice B b.length d] w (RR w (MQ X Y a b (fun a b => a || b))) := by
  go_enter Try.func88, Try.ntmps88
  go_wp2_with fail
  refine (merge1 A B c d a b X Y _ _ w hA hB ra rb hX ia ib kcOr kpOr rfl).mono ?_
  rintro e W ⟨A1, c1, L, rfl, o1, q1, g1⟩
  go_wp2
  go_ret
  exact ⟨A1, c1, L, rfl, o1, q1, g1⟩
/-- What Of tells of any rectangles. -/
structure OfQ (X Y : List Int) (L R : List Rc) : Prop where
  reg : IsReg R
  inr : InR X Y R
  has : ∀ x y, hasL R x y = hasL L x y
def InNe (X Y : List Int) (L : List Rc) : Prop := ∀ r ∈ L, emptyB r.a r.b r.c r.d = false → r.a ∈ X ∧ r.c ∈ X ∧ r.b ∈ Y ∧ r.d ∈ Y
theorem InR.ne {X Y : List Int} {L : List Rc} (h : InR X Y L) : InNe X Y L := fun r hr _ => h r hr
def neL (L : List Rc) : List Rc := L.filter fun r => !emptyB r.a r.b r.c r.d
theorem neL_has (L : List Rc) (x y : Int) : hasL (neL L) x y = hasL L x y := by
  induction L with
  | nil => rfl
  | cons r l ih =>
    unfold neL at *
    rw [List.filter_cons]
    by_cases he : emptyB r.a r.b r.c r.d = true
    · rw [he]
      have : hasB r.a r.b r.c r.d x y = false := by
        unfold emptyB at he; unfold hasB; simp at *; omega
      unfold hasL at *
      simp only [Bool.not_true, Bool.false_eq_true, if_false]
      rw [ih, List.any_cons, this, Bool.false_or]
    · simp only [Bool.not_eq_true] at he
      rw [he]
      unfold hasL at *
      simp only [Bool.not_false, if_true]
      rw [List.any_cons, List.any_cons, ih]
theorem one_reg {r : Rc} (h : emptyB r.a r.b r.c r.d = false) : IsReg [r] := by
  have hne : r.a < r.c ∧ r.b < r.d := by unfold emptyB at h; simp at h; omega
  refine ⟨[⟨r.b, r.d, [r.a, r.c]⟩], ⟨⟨?_, by simp⟩, by simp⟩, rfl⟩
  intro b hb
  rw [List.mem_singleton] at hb
  subst hb
  exact ⟨hne.2, by unfold Inc; simp; exact hne.1, by simp⟩
theorem neL_reg {L : List Rc} (h : L.length ≤ 1) : IsReg (neL L) := by
  match L, h with
  | [], _ => exact ⟨[], ⟨Wk.nil, by simp⟩, rfl⟩
  | [r], _ =>
    unfold neL
    rw [List.filter_cons]
    by_cases he : emptyB r.a r.b r.c r.d = true
    · rw [he]; exact ⟨[], ⟨Wk.nil, by simp⟩, rfl⟩
    · simp only [Bool.not_eq_true] at he
      rw [he]; exact one_reg he
theorem neL_ofq {X Y : List Int} {L : List Rc} (h : L.length ≤ 1) (hi : InNe X Y L) : OfQ X Y L (neL L) :=
  ⟨neL_reg h, fun r hr => hi r (List.mem_filter.1 hr).1 (by have := (List.mem_filter.1 hr).2; simpa using this), neL_has L⟩
theorem hasL_halves (L : List Rc) (h : Nat) (x y : Int) : hasL L x y = (hasL (L.take h) x y || hasL (L.drop h) x y) := by
  conv => lhs; rw [← List.take_append_drop h L]
  unfold hasL; rw [List.any_append]
theorem halves_ofq {X Y : List Int} {L R1 R2 R : List Rc} {h : Nat} (h1 : OfQ X Y (L.take h) R1) (h2 : OfQ X Y (L.drop h) R2) (m : MQ X Y R1 R2 (fun a b => a || b) R) : OfQ X Y L R :=
  ⟨m.reg, m.inr, fun x y => by rw [m.has, h1.has, h2.has, hasL_halves L h]⟩
theorem RowR.half {w : World} {b off : Nat} {L : List Rc} (hr : RowR w b off L) (h : Nat) : RowR w b off (L.take h) ∧ RowR w b (off + h * 4) (L.drop h) := by
  refine ⟨fun k r hk => hr k r ?_, fun k r hk => ?_⟩
  · rw [List.getElem?_take] at hk
    split at hk
    · exact hk
    · cases hk
  · rw [List.getElem?_drop] at hk
    have := hr (h + k) r hk
    rw [show off + (h + k) * 4 = off + h * 4 + k * 4 from by omega] at this
    exact this

theorem neL_more {L : List Rc} {k : Nat} {r : Rc} (h : L[k]? = some r) : neL (L.take (k + 1)) = if emptyB r.a r.b r.c r.d = true then neL (L.take k) else neL (L.take k) ++ [r] := by
  rw [take_more h]
  unfold neL
  rw [List.filter_append]
  by_cases he : emptyB r.a r.b r.c r.d = true
  · rw [if_pos he]; simp [he]
  · rw [if_neg he]; simp only [Bool.not_eq_true] at he; simp [he]

set_option maxHeartbeats 8000000 in
theorem of0 (A : Option Addr) (c : Nat) (L : List Rc) (X Y : List Int) (w : World) (h1 : L.length ≤ 1) (hA : Rs w A L) (hi : InNe X Y L) :
    Calls Try.prog 52 #[.slice A L.length c] w (RR w (OfQ X Y L)) := by
  have fin := Lib.hid (neL_ofq (X := X) (Y := Y) h1 hi)
  obtain ⟨n, hn⟩ : ∃ n, n = L.length := ⟨_, rfl⟩
  rw [← hn] at h1 ⊢
  replace hn := Lib.hid hn
  have hd : decide ((1 : Int) < (n : Int)) = false := by simp; omega
  go_enter Try.func52, Try.ntmps52
  go_wp2
  go_loopw [4, 24] (fun v i wr => ∃ (k : Nat) (A' : Option Addr) (c' : Nat) (O : List Rc), k ≤ n ∧ v = .slice A' O.length c' ∧ i = .int .i64 k ∧ Hid (O = neL (L.take k)) ∧ O.length ≤ k ∧ OwR wr w.heap.size A' c' O ∧ Bl w wr) (fun _ i _ => n - (intOf i).toNat)
  case atStart => exact ⟨0, none, 0, [], Nat.zero_le _, rfl, rfl, Lib.hid rfl, by simp, OwR.nil _ _, Bl.refl _⟩
  case round =>
    obtain ⟨k, A', c', O, hk, rfl, rfl, hO, hOl, own, G⟩ := hrel
    by_cases hlt : k < n
    · obtain ⟨⟨ra, rb, rc, rd⟩, hr⟩ := list_at (show k < L.length by rw [← hn.out]; exact hlt)
      obtain ⟨b, off, rfl, hrow⟩ := hA.opened (by have := hn.out; omega)
      obtain ⟨e1, e2, e3, e4⟩ := (hrow.bl G) k _ hr
      dsimp only at e1 e2 e3 e4
      have c1 := empty1 ra rb rc rd
      have hm := neL_more hr
      rw [← hO.out] at hm
      dsimp only at hm
      have szo := G.size
      have lb := World.block_lt_of_cell? _ _ e1
      have own1 := own.bl ((Bl.refl wr).alloc (.cells #[.int .i64 ra, .int .i64 rb, .int .i64 rc, .int .i64 rd] 24))
      have bx := At.new wr #[.int .i64 ra, .int .i64 rb, .int .i64 rc, .int .i64 rd] 24
      have G1 := G.alloc (.cells #[.int .i64 ra, .int .i64 rb, .int .i64 rc, .int .i64 rd] 24)
      clear hr
      by_cases he : emptyB ra rb rc rd = true
      · rw [if_pos he] at hm
        rw [he] at c1
        replace hm := Lib.hid hm
        clear he
        go_wp2_with fail
        refine (c1 _).mono ?_
        rintro e W1 ⟨rfl, g1⟩
        clear e1 e2 e3 e4 bx lb
        go_wp2
        go_roundw
        case rel => exact ⟨k + 1, A', c', O, by omega, rfl, by go_num, Lib.hid hm.out.symm, by omega, own1.bl g1.bl, G1.gr g1⟩
        case measure => simp [intOf]; omega
      · rw [if_neg he] at hm
        simp only [Bool.not_eq_true] at he
        rw [he] at c1
        replace hm := Lib.hid hm
        clear he
        go_wp2_with fail
        refine (c1 _).mono ?_
        rintro e W1 ⟨rfl, g1⟩
        have k0 := (bx.gr g1).cell
        have own2 := own1.bl g1.bl
        have G2 := G1.gr g1
        have sz2 := G2.size
        clear e1 e2 e3 e4 bx lb g1
        go_wp2_with (at_builtin; refine wp_app_r rfl (.tmp 31) (.tmp 33) rfl A' c' O rfl w.heap.size (own2.bl ((Bl.refl W1).alloc _)) W1.heap.size ⟨ra, rb, rc, rd⟩ 1 rfl (At.new W1 _ _) (by omega) (by simp; omega) ?_; intro A3 c3 w3 own5 ap3)
        go_roundw
        case rel => exact ⟨k + 1, A3, c3, O ++ [⟨ra, rb, rc, rd⟩], by omega, by simp, by go_num, Lib.hid hm.out.symm, by simp; omega, own5, ap3.bl (G2.alloc _) (own2.bl ((Bl.refl W1).alloc _)).lies (Nat.le_refl _)⟩
        case measure => simp [intOf]; omega
    · obtain rfl : k = n := by omega
      go_wp2
      go_ret
      exact ⟨A', c', O, rfl, own, by rw [hO.out, hn.out, List.take_length]; exact fin.out, G⟩

set_option maxHeartbeats 16000000 in
theorem of1 : ∀ (N : Nat) (A : Option Addr) (c : Nat) (L : List Rc) (X Y : List Int) (w : World), L.length ≤ N → L.length ≤ 100000000 → L.length ≤ c → c ≤ 9223372036854775807 → Rs w A L → Grid X Y → InNe X Y L →
    Calls Try.prog 52 #[.slice A L.length c] w (RR w (OfQ X Y L)) := by
  intro N
  induction N with
  | zero =>
    intro A c L X Y w hN _ hc hcm hA hX hi
    exact of0 A c L X Y w (by omega) hA hi
  | succ N ih =>
    intro A c L X Y w hN hl hc hcm hA hX hi
    by_cases h1 : L.length ≤ 1
    · exact of0 A c L X Y w h1 hA hi
    · obtain ⟨b, off, rfl, row⟩ := hA.opened (by omega)
      obtain ⟨n, hn⟩ : ∃ n, n = L.length := ⟨_, rfl⟩
      obtain ⟨hf, hh⟩ : ∃ hf, hf = n / 2 := ⟨_, rfl⟩
      rw [← hn] at h1 hc hl hN ⊢
      have h2 : hf ≤ n := by omega
      have h3 : hf < c := by omega
      have h4 : 1 ≤ hf ∧ hf < n := by omega
      obtain ⟨h41, h42⟩ := h4
      have q1 : (n : Int) / 2 = (hf : Int) := by omega
      have q2 : (n : Int).tdiv 2 = (hf : Int) := by rw [Int.tdiv_eq_ediv_of_nonneg (by omega)]; omega
      have q3 : IntKind.i64.wrap (hf : Int) = (hf : Int) := IntWalk.i64_in _ (by omega)
      have q4 : (hf : Int) ≤ (n : Int) := by omega
      have q5 : (hf : Int) ≤ (c : Int) := by omega
      have q6 : (n : Int) ≤ (c : Int) := by omega
      have hd : decide ((1 : Int) < (n : Int)) = true := by simp; omega
      have row1 := (row.half hf).1
      have row2 := (row.half hf).2
      have l1 : (L.take hf).length = hf := by rw [List.length_take]; omega
      have l2 : (L.drop hf).length = n - hf := by rw [List.length_drop]; omega
      have c1 := ih (some ⟨b, off, none⟩) c (L.take hf) X Y
      have c2 := ih (some ⟨b, off + hf * 4, none⟩) (c - hf) (L.drop hf) X Y
      rw [l1] at c1
      rw [l2] at c2
      replace hn := Lib.hid hn
      replace hh := Lib.hid hh
      clear l1 l2 ih
      go_enter Try.func52, Try.ntmps52
      go_wp2_with fail
      go_region_held3 (fun _ => True) (exact trivial)
        ((first
          | (go_at_call_of 52 (Value.slice (some ⟨b, off, none⟩) hf c); (refine (c1 _ (by omega) (by omega) (by omega) hcm (.inr ⟨b, off, rfl, row1.bl (by first | exact Bl.refl _ | exact (Bl.refl _).drew)⟩) hX (fun r hr => hi r (List.mem_of_mem_take hr))).mono ?_); rintro e W2 ⟨A2, c2', R1, rfl, o1, ofq1, g2⟩)
          | (go_at_call_of 52 (Value.slice (some ⟨b, off + hf * 4, none⟩) (n - hf) (c - hf)); (refine (c2 _ (by omega) (by omega) (by omega) (by omega) (.inr ⟨b, off + hf * 4, rfl, row2.bl (by first | exact Bl.refl _ | exact (Bl.refl _).drew | exact g2 | exact (Bl.refl _).drew.trans g2 | exact g2.drew)⟩) hX (fun r hr => hi r (List.mem_of_mem_drop hr))).mono ?_); rintro e W3 ⟨A3, c3', R2, rfl, o2, ofq2, g3⟩)
          | (go_at_call 88; (refine (union1 A2 A3 c2' c3' R1 R2 X Y _ (o1.rs.bl (by first | exact g3 | exact g3.drew)) (o2.rs.bl (by first | exact Bl.refl _ | exact (Bl.refl _).drew)) ofq1.reg ofq2.reg hX ofq1.inr ofq2.inr).mono ?_); rintro e W4 ⟨A4, c4', R, rfl, o3, mq, g4⟩)))
      have mqf := Lib.hid (halves_ofq (X := X) (Y := Y) ofq1 ofq2 mq)
      have GW : Bl w W4 := by first | exact (((Bl.refl w).drew.trans g2).trans g3).trans g4 | exact ((g2.trans g3).trans g4) | exact ((((Bl.refl w).drew.trans g2).drew.trans g3).drew.trans g4) | exact (((g2.drew).trans g3).drew).trans g4
      have szz : w.heap.size ≤ W3.heap.size := by have := g2.size; have := g3.size; simp at *; omega
      clear q1 q2 q3 hd c1 c2
      go_wp2
      go_ret
      exact ⟨A4, c4', R, rfl, own_mono o3 szz, mqf.out, GW⟩


end Go.Proofs.Ytafceieenhogpaa
