/-
  What is proved: what region.Has hands back.
-/
import Derived.Test.YtbhekpcjdpbahaaAa
namespace Go.Proofs.Ytbhekpcjdpbahaa
open Go.RowKit Go.Sort

theorem At.newAt {w : World} {n : Nat} (h : w.heap.size = n) (cs : Array Value) (t : TypeId) : At (w.alloc (.cells cs t)) n cs t := h ▸ At.new w cs t
theorem kcHas : Kc 64 := fun _ _ => by kernel_rfl

set_option maxHeartbeats 1000000 in
theorem hasc1 (a b c d x y : Int) (kx ky : Nat) (tx ty : TypeId) (w : World) (hx : At w kx #[.int .i64 x] tx) (hy : At w ky #[.int .i64 y] ty) :
    Calls Try.prog 64 #[.agg #[.int .i64 a, .int .i64 b, .int .i64 c, .int .i64 d], .pointer (some ⟨kx, 0, none⟩), .pointer (some ⟨ky, 0, none⟩)] w (Rt w (.bool (hasB a b c d x y))) := by
  have c1 := has1 a b c d x y
  have e1 := (hx.alloc (.cells #[.int .i64 a, .int .i64 b, .int .i64 c, .int .i64 d] 23)).cell 0
  have e2 := (hy.alloc (.cells #[.int .i64 a, .int .i64 b, .int .i64 c, .int .i64 d] 23)).cell 0
  have l1 := hx.lt
  have l2 := hy.lt
  have f1 := hx.cell 0
  have f2 := hy.cell 0
  simp at e1 e2 f1 f2
  go_enter Try.func64, Try.ntmps64
  go_wp2_with fail
  refine (c1 _).mono ?_
  rintro e w' ⟨rfl, g1⟩
  go_wp2
  go_ret
  exact ⟨rfl, ((Gr.refl w).alloc _).trans g1⟩

theorem any_take_more {P : Rc → Bool} {L : List Rc} {k : Nat} {r : Rc} (h : L[k]? = some r) (hp : P r = false) (ha : (L.take k).any P = false) : (L.take (k + 1)).any P = false := by
  rw [take_more h, List.any_append, ha]
  simp [hp]

set_option maxHeartbeats 2000000 in
theorem idxf1 (A : Option Addr) (c : Nat) (L : List Rc) (g : FuncId) (cap : Array Value) (P : Rc → Bool) (w : World) (hA : Rs w A L) (hl : L.length ≤ 9000000000000000000) (hg : Kc g)
    (hc : ∀ (r : Rc) (w' : World), Gr w w' → Calls Try.prog g (#[.agg #[.int .i64 r.a, .int .i64 r.b, .int .i64 r.c, .int .i64 r.d]] ++ cap) w' (Rt w' (.bool (P r)))) :
    Calls Try.prog 85 #[.slice A L.length c, .func (.func g) #[] cap] w (fun e w' => ∃ z : Int, e = .returned (.int .i64 z) ∧ Hid (0 ≤ z ↔ L.any P = true) ∧ Gr w w') := by
  unfold Kc at hg
  obtain ⟨n, hn⟩ : ∃ n, n = L.length := ⟨_, rfl⟩
  rw [← hn] at hl ⊢
  replace hn := Lib.hid hn
  go_enter Try.func85, Try.ntmps85
  go_wp2
  go_loopw [8] (fun iv wr => ∃ k : Nat, k ≤ n ∧ iv = .int .i64 k ∧ Hid ((L.take k).any P = false) ∧ Gr w wr) (fun iv _ => n - (intOf iv).toNat)
  case atStart => exact ⟨0, Nat.zero_le _, rfl, Lib.hid rfl, Gr.refl w⟩
  case round =>
    obtain ⟨k, hk, rfl, hno, G⟩ := hrel
    by_cases hlt : k < n
    · obtain ⟨r, hr⟩ := list_at (show k < L.length by rw [← hn.out]; exact hlt)
      obtain ⟨b, off, rfl, hrow⟩ := hA.opened (by have := hn.out; omega)
      obtain ⟨e1, e2, e3, e4⟩ := (hrow.bl G.bl) k r hr
      have cc := fun w' h => hc r w' h
      have hmem := List.mem_of_getElem? hr
      have hmore := fun h => any_take_more (P := P) hr h hno.out
      replace hr := Lib.hid hr
      cases hp : P r
      · rw [hp] at cc
        replace hmore := Lib.hid (hmore hp)
        clear hp
        go_wp2_with fail
        refine (cc _ G).mono ?_
        rintro e w2 ⟨rfl, g2⟩
        go_wp2
        go_roundw
        case rel => exact ⟨k + 1, by omega, by go_num, hmore, G.trans g2⟩
        case measure => simp [intOf]; omega
      · rw [hp] at cc
        have hany : Hid (L.any P = true) := Lib.hid (List.any_eq_true.2 ⟨r, hmem, hp⟩)
        clear hp hmore
        go_wp2_with fail
        refine (cc _ G).mono ?_
        rintro e w2 ⟨rfl, g2⟩
        go_wp2
        go_ret
        exact ⟨k, rfl, Lib.hid ⟨fun _ => hany.out, fun _ => by omega⟩, G.trans g2⟩
    · obtain rfl : k = n := by omega
      go_wp2
      go_ret
      refine ⟨-1, rfl, Lib.hid ⟨fun h => by omega, fun h => ?_⟩, G⟩
      rw [hn.out, List.take_length] at hno
      rw [hno.out] at h
      cases h

set_option maxHeartbeats 1000000 in
theorem containsf1 (A : Option Addr) (c : Nat) (L : List Rc) (g : FuncId) (cap : Array Value) (P : Rc → Bool) (w : World) (hA : Rs w A L) (hl : L.length ≤ 9000000000000000000) (hg : Kc g)
    (hc : ∀ (r : Rc) (w' : World), Gr w w' → Calls Try.prog g (#[.agg #[.int .i64 r.a, .int .i64 r.b, .int .i64 r.c, .int .i64 r.d]] ++ cap) w' (Rt w' (.bool (P r)))) :
    Calls Try.prog 63 #[.slice A L.length c, .func (.func g) #[] cap] w (Rt w (.bool (L.any P))) := by
  have cI := idxf1 A c L g cap P w hA hl hg hc
  generalize L.length = n at *
  clear hc hg hA
  go_enter Try.func63, Try.ntmps63
  go_wp2_with fail
  refine cI.mono ?_
  rintro e w' ⟨z, rfl, hz, g1⟩
  go_wp2
  go_ret
  refine Rt.bool ?_ g1
  rw [← hz.out]
  simp

theorem hasL_any (L : List Rc) (x y : Int) : (L.any fun r => hasB r.a r.b r.c r.d x y) = hasL L x y := rfl

set_option maxHeartbeats 1000000 in
theorem hasR1 (A : Option Addr) (c : Nat) (L : List Rc) (x y : Int) (w : World) (hA : Rs w A L) (hl : L.length ≤ 9000000000000000000) :
    Calls Try.prog 31 #[.slice A L.length c, .int .i64 x, .int .i64 y] w (Rt w (.bool (hasL L x y))) := by
  have W := ((Gr.refl w).alloc (.cells #[.int .i64 x] 3)).alloc (.cells #[.int .i64 y] 3)
  have X := (At.new w #[.int .i64 x] 3).alloc (.cells #[.int .i64 y] 3)
  have Y := At.newAt (w := w.alloc (.cells #[.int .i64 x] 3)) (n := w.heap.size + 1) (by simp) #[.int .i64 y] 3
  have cC := containsf1 A c L 64 #[.pointer (some ⟨w.heap.size, 0, none⟩), .pointer (some ⟨w.heap.size + 1, 0, none⟩)] (fun r => hasB r.a r.b r.c r.d x y) _ (hA.bl W.bl) hl kcHas
    (fun r w' g => hasc1 r.a r.b r.c r.d x y _ _ _ _ w' (X.gr g) (Y.gr g))
  rw [hasL_any] at cC
  generalize hasL L x y = z at *
  generalize L.length = n at *
  go_enter Try.func31, Try.ntmps31
  go_wp2_with fail
  refine cC.mono ?_
  rintro e w' ⟨rfl, g1⟩
  go_wp2
  go_ret
  exact ⟨rfl, W.trans g1⟩

end Go.Proofs.Ytbhekpcjdpbahaa
