/-
  What is proved: how an argument that is a case of a layer is opened: the layer's parts, the sides, the colors. No conditions. what Box of the document's layers hands back. No conditions but bounds. what the document's example of layers comes to. No conditions. what the document's Good makes of a case, with all bounds at hand. No conditions but bounds.
-/
import Derived.Test.YtafceieenhogpaaZi
import Derived.Test.YtafceieenhogpaaZd
import Derived.Test.YtafceieenhogpaaZl
import Derived.Test.YtafceieenhogpaaZk
namespace Go.Proofs.Ytafceieenhogpaa
open Go.ChangeShapes Go.WideShapes Go.ChangeAt Go.RowKit Go.Joins Go.Sort Go.Deep

theorem list15 {α : Type} {l : List α} (h : l.length = 15) : ∃ v0 v1 v2 v3 v4 v5 v6 v7 v8 v9 v10 v11 v12 v13 v14 : α, l = [v0, v1, v2, v3, v4, v5, v6, v7, v8, v9, v10, v11, v12, v13, v14] := by
  match l, h with
  | [v0, v1, v2, v3, v4, v5, v6, v7, v8, v9, v10, v11, v12, v13, v14], _ => exact ⟨v0, v1, v2, v3, v4, v5, v6, v7, v8, v9, v10, v11, v12, v13, v14, rfl⟩

section
variable {H : Type} {enc : TypeId × Value → H} {P : Program} {w : World} {base : Nat} {spare : Nat → Bool} {held : Bool}
theorem st_field {t : TypeId} {fs : Array Field} {fuel : Nat} {cs : List Value} {x : DataW H × List MemPlace} (ht : P.underlying t = some (.struct fs)) (h : DataW.trod enc P w base spare held fuel t cs = some x) {i : Nat} {f : Field} (hi : fs[i]? = some f) :
    ∃ n y, DataW.trod enc P w base spare held n f.type (List.take (P.cellsOf f.type) (List.drop f.offset cs)) = some y := by
  obtain ⟨xs, n, _, _, _, hl, hf⟩ := DataW.trod_struct ht h
  have := hf i f hi
  have hlt : i < fs.size := (Array.getElem?_eq_some_iff.1 hi).1
  rw [List.getElem?_eq_getElem (by omega)] at this
  exact ⟨n, _, this⟩
theorem st_int {t : TypeId} {k : IntKind} {fs : Array Field} {fuel : Nat} {cs : List Value} {x : DataW H × List MemPlace} (ht : P.underlying t = some (.struct fs)) (h : DataW.trod enc P w base spare held fuel t cs = some x) {i : Nat} {f : Field} (hi : fs[i]? = some f) (he : P.underlying f.type = some (.int k))
    {v : Value} (hv : List.take (P.cellsOf f.type) (List.drop f.offset cs) = [v]) : ∃ q : Int, v = .int k q ∧ (Lit.int k q).wf = true := by
  obtain ⟨n, y, hy⟩ := st_field ht h hi
  rw [hv] at hy
  obtain ⟨q, e0, _, wq⟩ := DataW.trod_int he hy
  simp at e0
  exact ⟨q, e0, wq⟩
end
section
variable {H : Type} {enc : TypeId × Value → H} {w : World} {base : Nat} {spare : Nat → Bool} {held : Bool}
set_option maxRecDepth 100000 in
theorem open_numsF {k : IntKind} {t e : TypeId} (ht : Try.prog.underlying t = some (.slice e)) (he : Try.prog.underlying e = some (.int k)) (hc1 : Try.prog.cellsOf e = 1) {fuel : Nat} {v : Value} {y : DataW H × List MemPlace} (hf : DataW.trod enc Try.prog w base spare held fuel t [v] = some y) :
    ∃ (A : Option Addr) (cap : Nat) (L : List Int), v = .slice A L.length cap ∧ L.length ≤ cap ∧ cap ≤ maxLen ∧ Ns k w A L ∧ ∀ x ∈ L, (Lit.int k x).wf = true := by
  rcases open_slice ht hf with ⟨hc, _⟩ | ⟨a, len0, cap0, m, n, D, Pl, hc, _, hl, hm, hmm, _, hx⟩
  · simp at hc
    subst hc
    exact ⟨none, 0, [], rfl, Nat.zero_le _, Nat.zero_le _, .inl rfl, by intro r hr; simp at hr⟩
  · simp at hc
    subst hc
    by_cases hz : len0 = 0
    · subst hz; exact ⟨_, _, [], rfl, Nat.zero_le _, hm, .inl rfl, by intro r hr; simp at hr⟩
    · have hlm : len0 ≤ m := by rw [hmm]; split <;> omega
      have each : ∀ i, i < m → ∃ q : Int, w.cell? (a.add i) = some (Value.int k q) ∧ (Lit.int k q).wf = true := by
        intro i hi
        obtain ⟨cs', h1, h2⟩ := hx i hi
        rw [hc1] at h1
        obtain ⟨_, hlen, hcell⟩ := World.cells?_some h1
        obtain ⟨q, e0, _, wq⟩ := DataW.trod_int he h2
        refine ⟨q, ?_, wq⟩
        have := hcell 0 (by omega)
        rw [add_add, e0] at this
        simpa using this
      obtain ⟨f, hfq⟩ := choose_lt each
      have h0 := (hfq 0 (by omega)).1
      obtain ⟨b, off, spot⟩ := a
      cases spot with
      | some t =>
        simp [Addr.add, World.cell?] at h0
        exfalso
        split at h0 <;> cases h0
      | none =>
        have ad : ∀ i, (⟨b, off, none⟩ : Addr).add i = ⟨b, off + i, none⟩ := fun i => by unfold Addr.add; split <;> simp_all
        refine ⟨some ⟨b, off, none⟩, cap0, (List.range len0).map f, by simp, by simpa using hl, hm, .inr ⟨b, off, rfl, fun k r hk => ?_⟩, fun r hr => ?_⟩
        · have hkl : k < ((List.range len0).map f).length := by
            rcases Nat.lt_or_ge k ((List.range len0).map f).length with h' | h'
            · exact h'
            · rw [List.getElem?_eq_none h'] at hk; cases hk
          simp at hkl
          simp [hkl] at hk
          subst hk
          have hk' := (hfq k (by omega)).1
          rwa [ad] at hk'
        · rw [List.mem_map] at hr
          obtain ⟨k, hk, rfl⟩ := hr
          rw [List.mem_range] at hk
          exact (hfq k (by omega)).2

/-- The numbers of a case's layer. -/
structure KOk (ax ay s al : Int) (cp : Rc) (cw ch : Int) : Prop where
  ax : I64 ax
  ay : I64 ay
  s : I64 s
  al : I64 al
  cw : I64 cw
  ch : I64 ch

theorem cells76 : Try.prog.cellsOf 72 = 12 := by kernel_rfl
theorem cells78 : Try.prog.cellsOf 74 = 15 := by kernel_rfl
theorem cells34 : Try.prog.cellsOf 34 = 3 := by kernel_rfl
theorem cells74 : Try.prog.cellsOf 70 = 2 := by kernel_rfl
theorem cellsI : Try.prog.cellsOf 3 = 1 := by kernel_rfl
theorem cellsBo : Try.prog.cellsOf 4 = 1 := by kernel_rfl
theorem cellsSl : Try.prog.cellsOf 31 = 1 := by kernel_rfl

set_option maxRecDepth 100000 in
set_option maxHeartbeats 2000000 in
theorem open_case {v : Value} {dd : DataW H} {p : List MemPlace} {b0 : Nat} {r : Reach} (hv : Value.okWide Try.prog w r b0 74 v) (h : DataW.Trod enc Try.prog w base spare held 74 v dd p) :
    ∃ (sm : Bool) (W0 H0 : Int) (A0 : Option Addr) (n0 c0 : Nat) (ax ay s al : Int) (cp : Rc) (cw ch : Int) (A : Option Addr) (cap : Nat) (L : List Int),
      v = .agg #[.bool sm, .int .i64 W0, .int .i64 H0, .slice A0 n0 c0, .int .i64 ax, .int .i64 ay, .int .i64 s, .int .i64 al, .int .i64 cp.a, .int .i64 cp.b, .int .i64 cp.c, .int .i64 cp.d, .int .i64 cw, .int .i64 ch, .slice A L.length cap] ∧
      KOk ax ay s al cp cw ch ∧ L.length ≤ cap ∧ cap ≤ maxLen ∧ Ns .u32 w A L ∧ ∀ x ∈ L, C32 x := by
  obtain ⟨cs, rfl, hsz⟩ := okWide_struct Try.underlying74 hv
  rw [cells78] at hsz
  obtain ⟨fuel, hf⟩ := h
  obtain ⟨l⟩ := cs
  simp only [List.size_toArray] at hsz
  obtain ⟨v0, v1, v2, v3, v4, v5, v6, v7, v8, v9, v10, v11, v12, v13, v14, rfl⟩ := list15 hsz
  simp only [Value.cells] at hf
  obtain ⟨n1, y1, hL⟩ := st_field Try.underlying74 hf (i := 0) rfl
  simp [cells76] at hL
  obtain ⟨cw, rfl, wcw⟩ := st_int Try.underlying74 hf (i := 1) rfl Try.underlying3 (v := v12) (by simp [cellsI])
  obtain ⟨ch, rfl, wch⟩ := st_int Try.underlying74 hf (i := 2) rfl Try.underlying3 (v := v13) (by simp [cellsI])
  obtain ⟨n2, y2, hS⟩ := st_field Try.underlying74 hf (i := 3) rfl
  simp [cellsSl] at hS
  obtain ⟨A, cap, L, rfl, l1, l2, l3, l4⟩ := open_numsF Try.underlying31 Try.underlying39 cellsCol hS
  obtain ⟨n3, y3, hB⟩ := st_field Try.underlying72 hL (i := 0) rfl
  simp [cellsBo] at hB
  obtain ⟨sm, e0, _⟩ := DataW.trod_bool Try.underlying4 hB
  simp at e0
  subst e0
  obtain ⟨n4, y4, hMM⟩ := st_field Try.underlying72 hL (i := 1) rfl
  simp [cells34] at hMM
  obtain ⟨n5, y5, hP⟩ := st_field Try.underlying72 hL (i := 2) rfl
  simp [cells74] at hP
  obtain ⟨s, rfl, ws⟩ := st_int Try.underlying72 hL (i := 3) rfl Try.underlying3 (v := v6) (by simp [cellsI])
  obtain ⟨al, rfl, wal⟩ := st_int Try.underlying72 hL (i := 4) rfl Try.underlying3 (v := v7) (by simp [cellsI])
  obtain ⟨n6, y6, hC⟩ := st_field Try.underlying72 hL (i := 5) rfl
  simp [cellsRect] at hC
  obtain ⟨W0, rfl, _⟩ := st_int Try.underlying34 hMM (i := 0) rfl Try.underlying3 (v := v1) (by simp [cellsI])
  obtain ⟨H0, rfl, _⟩ := st_int Try.underlying34 hMM (i := 1) rfl Try.underlying3 (v := v2) (by simp [cellsI])
  obtain ⟨n7, y7, hMS⟩ := st_field Try.underlying34 hMM (i := 2) rfl
  simp [cellsSl] at hMS
  obtain ⟨A0, n0, c0, e1⟩ := slice_form Try.underlying31 hMS
  simp at e1
  subst e1
  obtain ⟨ax, rfl, wax⟩ := st_int Try.underlying70 hP (i := 0) rfl Try.underlying3 (v := v4) (by simp [cellsI])
  obtain ⟨ay, rfl, way⟩ := st_int Try.underlying70 hP (i := 1) rfl Try.underlying3 (v := v5) (by simp [cellsI])
  obtain ⟨a, rfl, _⟩ := st_int Try.underlying24 hC (i := 0) rfl Try.underlying3 (v := v8) (by simp [cellsI])
  obtain ⟨b, rfl, _⟩ := st_int Try.underlying24 hC (i := 1) rfl Try.underlying3 (v := v9) (by simp [cellsI])
  obtain ⟨c, rfl, _⟩ := st_int Try.underlying24 hC (i := 2) rfl Try.underlying3 (v := v10) (by simp [cellsI])
  obtain ⟨d, rfl, _⟩ := st_int Try.underlying24 hC (i := 3) rfl Try.underlying3 (v := v11) (by simp [cellsI])
  exact ⟨sm, W0, H0, A0, n0, c0, ax, ay, s, al, ⟨a, b, c, d⟩, cw, ch, A, cap, L, rfl, ⟨I64.of_wf wax, I64.of_wf way, I64.of_wf ws, I64.of_wf wal, I64.of_wf wcw, I64.of_wf wch⟩, l1, l2, l3, fun x hx => U32.of_wf (l4 x hx)⟩
end

end Go.Proofs.Ytafceieenhogpaa
namespace Go.Proofs.Ytafceieenhogpaa
open Go.RowKit Go.Sort Go.Deep

end Go.Proofs.Ytafceieenhogpaa
namespace Go.Proofs.Ytafceieenhogpaa
open Go.RowKit Go.Sort Go.Deep

set_option maxHeartbeats 1000000 in
theorem plives1 (w : World) : Calls Try.prog 44 #[] w (fun e w' => e = .returned (.bool true) ∧ Gr w w') := by
  have cn := new1 2 2 w (by omega) (by omega) (by omega) (by omega)
  have cb := fun (pm pc : Nat) (w : World) (L : List Int) (h : Img w pm pc 2 2 L) => pbox1 3 3 2 255 ⟨0, 0, 2, 2⟩ w h (by simp [lyMay, inB])
  rw [show lyBox ⟨0, 0, 2, 2⟩ 2 2 2 3 3 = ⟨3, 3, 7, 7⟩ from by simp [lyBox, lyE, ownR, cutR, emptyB]] at cb
  dsimp only at cb
  go_enter Try.func44, Try.ntmps44
  go_wp2_with fail
  refine cn.mono ?_
  rintro e w1 ⟨pm, pc, rfl, I1, h1, h2, g1⟩
  go_wp2_with fail
  refine (cb pm pc _ _ I1).mono ?_
  rintro e w2 ⟨rfl, g2⟩
  go_wp2
  go_ret
  exact ⟨rfl, g1.trans g2⟩

end Go.Proofs.Ytafceieenhogpaa
namespace Go.Proofs.Ytafceieenhogpaa
open Go.ChangeShapes Go.WideShapes Go.ChangeAt Go.RowKit Go.Joins Go.Sort Go.Deep

/-- A layer that Good made: its sides, colors, numbers. -/
structure LyG (W H n : Nat) (F : List Int) (a1 a2 s1 l1 : Int) : Prop where
  w1 : 1 ≤ W
  w2 : W ≤ 16
  h1 : 1 ≤ H
  h2 : H ≤ 16
  hn : n = W * H
  len : F.length = n
  may : MayL F
  b1 : -6 ≤ a1 ∧ a1 ≤ 17
  b2 : -6 ≤ a2 ∧ a2 ≤ 17
  b3 : 1 ≤ s1 ∧ s1 ≤ 3
  b4 : 0 ≤ l1 ∧ l1 ≤ 255
theorem LyG.ly {W H n : Nat} {F : List Int} {a1 a2 s1 l1 : Int} (h : LyG W H n F a1 a2 s1 l1) : lyMay W H s1 l1 a1 a2 = true := by
  obtain ⟨w1, w2, h1, h2, _, _, _, ⟨b1, b2⟩, ⟨b3, b4⟩, ⟨b5, b6⟩, ⟨b7, b8⟩⟩ := h
  obtain ⟨p1, p2⟩ := mul_bd (W := W) (s := s1) (by omega) (by omega) (by omega)
  obtain ⟨p3, p4⟩ := mul_bd (W := H) (s := s1) (by omega) (by omega) (by omega)
  unfold lyMay inB
  simp only [decide_eq_true_eq]
  omega
theorem LyG.c32 {W H n : Nat} {F : List Int} {a1 a2 s1 l1 : Int} (h : LyG W H n F a1 a2 s1 l1) : ∀ c ∈ F, C32 c := fun c hc => (h.may c hc).1

set_option maxHeartbeats 2000000 in
theorem kgood1 (sm : Bool) (W0 H0 : Int) (A0 : Option Addr) (n0 c0 : Nat) (ax ay s al : Int) (cp : Rc) (cw ch : Int) (A : Option Addr) (cap : Nat) (L : List Int) (w : World) (hK : KOk ax ay s al cp cw ch) (hlc : L.length ≤ cap) (hcm : cap ≤ maxLen) (hA : Ns .u32 w A L) (h32 : ∀ c ∈ L, C32 c) :
    Calls Try.prog 35 #[.agg #[.bool sm, .int .i64 W0, .int .i64 H0, .slice A0 n0 c0, .int .i64 ax, .int .i64 ay, .int .i64 s, .int .i64 al, .int .i64 cp.a, .int .i64 cp.b, .int .i64 cp.c, .int .i64 cp.d], .int .i64 cw, .int .i64 ch, .slice A L.length cap] w
      (fun e w' => ∃ (W H n : Nat) (F : List Int) (a1 a2 s1 l1 : Int) (rb : Nat), LyG W H n F a1 a2 s1 l1 ∧ e = .returned (.agg #[.bool true, .int .i64 W, .int .i64 H, .slice (some ⟨rb, 0, none⟩) n n, .int .i64 a1, .int .i64 a2, .int .i64 s1, .int .i64 l1, .int .i64 cp.a, .int .i64 cp.b, .int .i64 cp.c, .int .i64 cp.d]) ∧ At w' rb (cC F) 39 ∧ w.heap.size ≤ rb ∧ Bl w w') := by
  refine (lgood1 cw ch A cap L sm W0 H0 A0 n0 c0 ax ay s al cp w hA h32 hlc hcm hK.cw hK.ch hK.ax hK.ay hK.s hK.al).mono ?_
  rintro e w' ⟨rb, rfl, h1, h2, h3⟩
  obtain ⟨s1, s2, _⟩ := side_bd (around cw 6)
  obtain ⟨t1, t2, _⟩ := side_bd (around ch 6)
  obtain ⟨u1, u2⟩ := around_bd ax 24 (by omega)
  obtain ⟨u3, u4⟩ := around_bd ay 24 (by omega)
  obtain ⟨u5, u6⟩ := around_bd s 3 (by omega)
  obtain ⟨u7, u8⟩ := around_bd al 256 (by omega)
  exact ⟨side (around cw 6), side (around ch 6), _, _, _, _, _, _, rb, { w1 := s1, w2 := s2, h1 := t1, h2 := t2, hn := rfl, len := goodL_len _ _, may := goodL_may _ _, b1 := by omega, b2 := by omega, b3 := by omega, b4 := by omega }, rfl, h1, h2, h3⟩

end Go.Proofs.Ytafceieenhogpaa
