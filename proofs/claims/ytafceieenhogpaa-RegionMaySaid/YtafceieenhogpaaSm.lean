/-
  What is proved: what the document's own 'Small' hands back: rectangles near 0.
-/
import Derived.Test.YtafceieenhogpaaU
import Derived.Test.YtafceieenhogpaaMt
namespace Go.Proofs.Ytafceieenhogpaa
open Go.RowKit Go.Sort

def smRc (r : Rc) : Rc := smallR r.a r.b r.c r.d
def I64r (L : List Rc) : Prop := ∀ r ∈ L, I64 r.a ∧ I64 r.b ∧ I64 r.c ∧ I64 r.d
/-- The ints from -4 to 31. -/
def near : List Int := (List.range 36).map fun (i : Nat) => (i : Int) - 4
theorem near_mem (x : Int) : x ∈ near ↔ -4 ≤ x ∧ x ≤ 31 := by
  unfold near
  rw [List.mem_map]
  constructor
  · rintro ⟨i, hi, rfl⟩; rw [List.mem_range] at hi; omega
  · intro h; exact ⟨(x + 4).toNat, by rw [List.mem_range]; omega, by omega⟩
theorem grid_near : Grid near near := ⟨by simp [near], by simp [near], fun x hx => by rw [near_mem] at hx; unfold I64; omega⟩
theorem small_near (L : List Rc) : InNe near near (L.map smRc) := by
  intro r hr _
  rw [List.mem_map] at hr
  obtain ⟨s, _, rfl⟩ := hr
  obtain ⟨h1, h2, h3, h4, h5, h6, h7, h8⟩ := small_bd s.a s.b s.c s.d
  unfold smRc
  rw [near_mem, near_mem, near_mem, near_mem]
  omega

set_option maxHeartbeats 8000000 in
theorem refSmall1 (A : Option Addr) (c : Nat) (L : List Rc) (M : Nat) (w : World) (hA : Rs w A L) (hi : I64r L) (hl : L.length ≤ 9223372036854775807) (hM : M ≤ 8) :
    Calls Try.prog 36 #[.slice A L.length c, .int .i64 M] w (RR w (fun R => R = (L.take M).map smRc)) := by
  obtain ⟨n, hn⟩ : ∃ n, n = L.length := ⟨_, rfl⟩
  rw [← hn] at hl ⊢
  replace hn := Lib.hid hn
  go_enter Try.func36, Try.ntmps36
  go_wp2
  go_loopw [5, 6] (fun v i wr => ∃ (k : Nat) (A' : Option Addr) (c' : Nat) (O : List Rc), k ≤ n ∧ k ≤ M ∧ v = .slice A' O.length c' ∧ i = .int .i64 k ∧ Hid (O = (L.take k).map smRc) ∧ O.length ≤ 8 ∧ OwR wr w.heap.size A' c' O ∧ Bl w wr) (fun _ i _ => n - (intOf i).toNat)
  case atStart => exact ⟨0, none, 0, [], Nat.zero_le _, Nat.zero_le _, rfl, rfl, Lib.hid rfl, by simp, OwR.nil _ _, Bl.refl _⟩
  case round =>
    obtain ⟨k, A', c', O, hk, hkM, rfl, rfl, hO, hO8, own, G⟩ := hrel
    have szo := G.size
    by_cases hlt : k < n
    · by_cases hltM : k < M
      · obtain ⟨⟨ra, rb, rc, rd⟩, hr⟩ := list_at (show k < L.length by rw [← hn.out]; exact hlt)
        obtain ⟨b, off, rfl, hrow⟩ := hA.opened (by have := hn.out; omega)
        obtain ⟨e1, e2, e3, e4⟩ := (hrow.bl G) k _ hr
        dsimp only at e1 e2 e3 e4
        obtain ⟨i1, i2, i3, i4⟩ := hi _ (List.mem_of_getElem? hr)
        have c1 := fun w => small1 ra rb rc rd w i1 i2 i3 i4
        have hm : Hid ((L.take (k + 1)).map smRc = O ++ [smallR ra rb rc rd]) := Lib.hid (by rw [take_more hr, List.map_append, hO.out]; rfl)
        have hO7 : O.length ≤ k := by rw [hO.out, List.length_map, List.length_take]; omega
        clear hr
        go_wp2_with fail
        refine (c1 _).mono ?_
        rintro e W1 ⟨rfl, g1⟩
        have own2 := own.bl g1.bl
        have G2 := G.gr g1
        have sz2 := G2.size
        clear e1 e2 e3 e4 g1 i1 i2 i3 i4
        go_wp2_with (at_builtin; refine wp_app_r rfl (.tmp 18) (.tmp 24) rfl A' c' O rfl w.heap.size (own2.bl ((Bl.refl W1).alloc _)) W1.heap.size (smallR ra rb rc rd) 1 rfl (At.new W1 _ _) (by omega) (by simp; omega) ?_; intro A3 c3 w3 own5 ap3)
        go_roundw
        case rel => exact ⟨k + 1, A3, c3, O ++ [smallR ra rb rc rd], by omega, by omega, by simp, by go_num, Lib.hid hm.out.symm, by simp; omega, own5, ap3.bl (G2.alloc _) (own2.bl ((Bl.refl W1).alloc _)).lies (Nat.le_refl _)⟩
        case measure => simp [intOf]; omega
      · obtain rfl : k = M := by omega
        go_wp2
        go_ret
        exact ⟨A', c', O, rfl, own, hO.out, G⟩
    · have hkn : k = n := by omega
      have fin : Hid (O = (L.take M).map smRc) := Lib.hid (by rw [hO.out, List.take_of_length_le (by have := hn.out; omega), List.take_of_length_le (l := L) (by have := hn.out; omega)])
      clear hkn
      by_cases hltM : k < M
      all_goals
        go_wp2
        go_ret
        exact ⟨A', c', O, rfl, own, fin.out, G⟩

/-- The document's example. -/
def exL : List Rc := [⟨0, 0, 2, 2⟩, ⟨2, 0, 4, 2⟩]
theorem ex_of {X Y : List Int} {R : List Rc} (h : OfQ X Y exL R) : R = [⟨0, 0, 4, 2⟩] := by
  refine reg_ext h.reg (one_reg (by decide)) fun x y => ?_
  rw [← hasL_iff, ← hasL_iff, h.has]
  simp [exL, hasL, hasB]
  omega

theorem At.rowR {w : World} {g : Nat} {cs : Array Value} {t : TypeId} {L : List Rc} (h : At w g cs t) (hc : cs.toList = cR L) : RowR w g 0 L := fun k r hk => by
  have q := fun j (hj : j < 4) => (h.cell (k * 4 + j)).trans ((Array.getElem?_toList).symm.trans ((congrArg (·[k * 4 + j]?) hc).trans (cR_get L k r j hk hj)))
  refine ⟨?_, ?_, ?_, ?_⟩
  · rw [Nat.zero_add]; exact q 0 (by omega)
  · rw [Nat.zero_add]; exact q 1 (by omega)
  · rw [Nat.zero_add]; exact q 2 (by omega)
  · rw [Nat.zero_add]; exact q 3 (by omega)

def LivesQ (w : World) (e : Ending) (w' : World) : Prop := e = .returned (.bool true) ∧ Bl w w'
set_option maxHeartbeats 4000000 in
theorem lives1 (w : World) : Calls Try.prog 12 #[] w (LivesQ w) := by
  have c1 := of1 2 (some ⟨w.heap.size, 0, none⟩) 2 exL near near (w.alloc (.cells #[.int .i64 0, .int .i64 0, .int .i64 2, .int .i64 2, .int .i64 2, .int .i64 0, .int .i64 4, .int .i64 2] 24)) (by simp [exL]) (by simp [exL]) (by simp [exL]) (by omega)
    (.inr ⟨_, 0, rfl, At.rowR (At.new w _ _) rfl⟩) grid_near (by intro r hr _; simp [exL] at hr; rcases hr with rfl | rfl <;> simp [near_mem])
  go_enter Try.func12, Try.ntmps12
  go_wp2_with fail
  refine c1.mono ?_
  rintro e W1 ⟨A1, c1', R, rfl, o1, q1, g1⟩
  have hR := ex_of q1
  subst hR
  have G1 : Bl w W1 := ((Bl.refl w).alloc _).trans g1
  have rs := o1.rs
  clear c1 q1 g1 o1
  go_wp2_with fail
  refine (refSame1 A1 (some ⟨W1.heap.size, 0, none⟩) c1' 1 [⟨0, 0, 4, 2⟩] [⟨0, 0, 4, 2⟩] _ (rs.bl ((Bl.refl W1).alloc _)) (.inr ⟨_, 0, rfl, At.rowR (At.new W1 _ _) rfl⟩) (by simp) (by simp)).mono ?_
  rintro e W2 ⟨rfl, g2⟩
  go_wp2
  go_ret
  exact ⟨by simp, (G1.alloc _).gr g2⟩

end Go.Proofs.Ytafceieenhogpaa
