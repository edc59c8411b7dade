/-
  What is proved: what Same of package frame, and the document's, hand back of two messages that are the same; SameAll of two rows of the same messages. No conditions but bounds.
-/
import Derived.Test.YtapejibffglnnaaOi
import Derived.Test.YtapejibffglnnaaShc
namespace Go.Proofs.Ytapejibffglnnaa
open Go.RowKit Go.Sort

set_option maxRecDepth 100000 in
set_option maxHeartbeats 4000000 in
theorem rsame1 (A A2 : Option Addr) (c c2 : Nat) (m : Ms) (w : World) (hA : RwB w A m.body) (hA2 : RwB w A2 m.body) :
    Calls Try.prog 16 #[.agg #[.int .i64 m.op, .int .i64 m.id, .slice A m.body.length c], .agg #[.int .i64 m.op, .int .i64 m.id, .slice A2 m.body.length c2]] w (Rt w (.bool true)) := by
  obtain ⟨op, id, body⟩ := m
  dsimp only at *
  have g : Gr w ((w.alloc (.cells #[.int .i64 op, .int .i64 id, .slice A body.length c] 24)).alloc (.cells #[.int .i64 op, .int .i64 id, .slice A2 body.length c2] 24)) := ((Gr.refl w).alloc _).alloc _
  have t1 := Sv.text (c := c) (hA.bl g.bl)
  have t2 := Sv.text (c := c2) (hA2.bl g.bl)
  generalize strOfNums body = S at *
  generalize body.length = n at *
  clear hA hA2
  go_enter Try.func16, Try.ntmps16
  go_wp2
  go_ret
  exact ⟨by simp, g⟩

set_option maxRecDepth 100000 in
set_option maxHeartbeats 4000000 in
theorem fsame1 (A A2 : Option Addr) (c c2 : Nat) (m : Ms) (w : World) (hA : RwB w A m.body) (hA2 : RwB w A2 m.body) :
    Calls Try.prog 17 #[.agg #[.int .i64 m.op, .int .i64 m.id, .slice A m.body.length c], .agg #[.int .i64 m.op, .int .i64 m.id, .slice A2 m.body.length c2]] w (Rt w (.bool true)) := by
  obtain ⟨op, id, body⟩ := m
  dsimp only at *
  have g : Gr w ((w.alloc (.cells #[.int .i64 op, .int .i64 id, .slice A body.length c] 24)).alloc (.cells #[.int .i64 op, .int .i64 id, .slice A2 body.length c2] 24)) := ((Gr.refl w).alloc _).alloc _
  have t1 := Sv.text (c := c) (hA.bl g.bl)
  have t2 := Sv.text (c := c2) (hA2.bl g.bl)
  have ce := sh_bytes_Equal _ _ _ _ _ t1 t2
  rw [show (Lib.bytesOf body == Lib.bytesOf body) = true by simp] at ce
  generalize body.length = n at *
  clear hA hA2 t1 t2
  go_enter Try.func17, Try.ntmps17
  go_wp2_with (refine ce.mono ?_; rintro e w1 ⟨rfl, rfl⟩)
  go_ret
  exact ⟨by simp, g⟩

set_option maxRecDepth 100000 in
set_option maxHeartbeats 4000000 in
theorem sameAll1 (A A2 : Option Addr) (c c2 : Nat) (X Y : List (Ms × Value)) (w : World) (hX : Mv w A X) (hY : Mv w A2 Y) (he : X.map Prod.fst = Y.map Prod.fst) (hl : X.length ≤ 1000000) :
    Calls Try.prog 23 #[.slice A X.length c, .slice A2 Y.length c2] w (Rt w (.bool true)) := by
  have hn : Y.length = X.length := by have := congrArg List.length he; simpa using this.symm
  rw [hn]
  obtain ⟨n, hnn⟩ : ∃ n, n = X.length := ⟨_, rfl⟩
  rw [← hnn] at hl hn ⊢
  replace hn := Lib.hid hn
  replace hnn := Lib.hid hnn
  replace he := Lib.hid he
  go_enter Try.func23, Try.ntmps23
  go_wp2
  go_loopw [5] (fun i wr => ∃ k : Nat, k ≤ n ∧ i = .int .i64 k ∧ Gr w wr) (fun i _ => n - (intOf i).toNat)
  case atStart => exact ⟨0, Nat.zero_le _, rfl, Gr.refl _⟩
  case round =>
    obtain ⟨k, hk, rfl, G⟩ := hrel
    by_cases hlt : k < n
    · have q1 : (k : Int) < n := by omega
      obtain ⟨b, off, p, rfl, hp, x0, x1, x2, sx⟩ := (hX.bl G.bl).at (k := k) (by rw [← hnn.out]; exact hlt)
      obtain ⟨b2, off2, r, rfl, hr, y0, y1, y2, sy⟩ := (hY.bl G.bl).at (k := k) (by rw [hn.out]; exact hlt)
      have hpr : r.1 = p.1 := by
        have h1 := congrArg (fun l => l[k]?) he.out
        simp only [List.getElem?_map, hp, hr, Option.map_some] at h1
        exact (Option.some.inj h1).symm
      rw [hpr] at y0 y1 sy
      obtain ⟨⟨op, id, body⟩, v⟩ := p
      obtain ⟨m2, v2⟩ := r
      dsimp only at *
      obtain ⟨Aa, ca, rfl, _, _, _, ra⟩ := sx
      obtain ⟨Ab, cb, rfl, _, _, _, rb⟩ := sy
      have cs : ∀ (d : Nat) (os : Array Obj), Calls Try.prog 16 #[.agg #[.int .i64 op, .int .i64 id, .slice Aa body.length ca], .agg #[.int .i64 op, .int .i64 id, .slice Ab body.length cb]] (grow (wr.drewN d) os) (Rt (grow (wr.drewN d) os) (.bool true)) := fun d os =>
        rsame1 Aa Ab ca cb ⟨op, id, body⟩ _ (ra.bl ((((Bl.refl wr).drewN d).grow os))) (rb.bl ((((Bl.refl wr).drewN d).grow os)))
      have X0 : ∀ (d : Nat) (os : Array Obj), (grow (wr.drewN d) os).cell? ⟨b, off + k * 3, none⟩ = _ := fun d os => (((Bl.refl wr).drewN d).grow os).keep x0
      have X1 : ∀ (d : Nat) (os : Array Obj), (grow (wr.drewN d) os).cell? ⟨b, off + k * 3 + 1, none⟩ = _ := fun d os => (((Bl.refl wr).drewN d).grow os).keep x1
      have X2 : ∀ (d : Nat) (os : Array Obj), (grow (wr.drewN d) os).cell? ⟨b, off + k * 3 + 2, none⟩ = _ := fun d os => (((Bl.refl wr).drewN d).grow os).keep x2
      have Y0 : ∀ (d : Nat) (os : Array Obj), (grow (wr.drewN d) os).cell? ⟨b2, off2 + k * 3, none⟩ = _ := fun d os => (((Bl.refl wr).drewN d).grow os).keep y0
      have Y1 : ∀ (d : Nat) (os : Array Obj), (grow (wr.drewN d) os).cell? ⟨b2, off2 + k * 3 + 1, none⟩ = _ := fun d os => (((Bl.refl wr).drewN d).grow os).keep y1
      have Y2 : ∀ (d : Nat) (os : Array Obj), (grow (wr.drewN d) os).cell? ⟨b2, off2 + k * 3 + 2, none⟩ = _ := fun d os => (((Bl.refl wr).drewN d).grow os).keep y2
      clear hpr hp hr ra rb x0 x1 x2 y0 y1 y2
      generalize body.length = nb at *
      go_wp2
      refine wp_region_quiet_grown (by kernel_rfl) (by kernel_rfl) ?_
      repeat (first | go_big_quiet_step (exact Calls.grown (cs _ _)) | quiet_step (exact Calls.grown (cs _ _)))
      refine wpQuiet_nil ?_
      intro W2 g8
      replace g8 : Gr _ W2 := g8
      go_wp2
      go_roundw
      case rel => exact ⟨k + 1, by omega, by simp, G.trans g8⟩
      case measure => simp [intOf]; omega
    · obtain rfl : k = n := by omega
      go_wp2
      go_ret
      exact ⟨rfl, G⟩

theorem clone1 (A : Option Addr) (c : Nat) (L : List Int) (w : World) (hA : RwB w A L) (hl : L.length ≤ 1000000) :
    Calls Try.prog 30 #[.slice A L.length c] w fun e w' => ∃ A' c', e = .returned (.slice A' L.length c') ∧ Sv w' (.slice A' L.length c') L ∧ (L = [] ∨ ∃ k, A'.map (·.block) = some k ∧ w.heap.size ≤ k) ∧ Bl w w' := by
  cases A with
  | none =>
    have hL : L = [] := by
      rcases hA with h | ⟨b, off, h, _⟩
      · exact h
      · cases h
    subst hL
    refine (sh_bytes_Clone_nil _ c w).mono ?_
    rintro e w' ⟨rfl, rfl⟩
    exact ⟨none, 0, rfl, Sv.nil _, .inl rfl, Bl.refl _⟩
  | some a =>
    refine (sh_bytes_Clone_at a L.length c L w rfl (by omega) (fun i hi => ?_)).mono ?_
    · rcases hA with h | ⟨b, off, h, hr⟩
      · subst h; simp at hi
      · cases h
        obtain ⟨x, hx⟩ := list_at hi
        rw [add_lit', hr i x hx, List.getD_eq_getElem?_getD, hx]; rfl
    · rintro e w' ⟨v, rfl, own, _, hb⟩
      have own' := own
      rcases own.2 with ⟨rfl, h0⟩ | ⟨g, cap, cur, rfl, hg, _⟩
      · have hL : L = [] := List.eq_nil_of_length_eq_zero h0
        subst hL
        exact ⟨none, 0, rfl, Sv.nil _, .inl rfl, hb⟩
      · exact ⟨some ⟨g, 0, none⟩, cap, rfl, OwB.sv (B := w.heap.size) own', .inr ⟨g, rfl, hg⟩, hb⟩

theorem broken1 (r : Nat) (br : Bool) (w : World) (h : w.cell? ⟨r, 1, none⟩ = some (.bool br)) :
    Calls Try.prog 25 #[.pointer (some ⟨r, 0, none⟩)] w (Rt w (.bool br)) := by
  go_enter Try.func25, Try.ntmps25
  go_wp2
  go_ret
  exact ⟨rfl, Gr.refl _⟩
theorem left1 (r : Nat) (A : Option Addr) (n c : Nat) (w : World) (h : w.cell? ⟨r, 0, none⟩ = some (.slice A n c)) :
    Calls Try.prog 26 #[.pointer (some ⟨r, 0, none⟩)] w (Rt w (.int .i64 n)) := by
  go_enter Try.func26, Try.ntmps26
  go_wp2
  go_ret
  exact ⟨rfl, Gr.refl _⟩

end Go.Proofs.Ytapejibffglnnaa
