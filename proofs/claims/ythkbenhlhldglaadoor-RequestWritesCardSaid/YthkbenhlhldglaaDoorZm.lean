/-
  What is proved: what Encode of package request hands back of any request. No conditions but bounds.
-/
import Derived.Test.YthkbenhlhldglaaDoorMk
import Derived.Test.YthkbenhlhldglaaDoorZl
import Derived.Deep.RegionHeld3
namespace Go.Proofs.YthkbenhlhldglaaDoor
open Go.RowKit Go.Sort
attribute [local go_sem] run_store_nf run_store_fn

theorem gv_by {c : UInt8} {b : List Int} (h : ByL b) : ByL (gv c b).b := by
  unfold gv
  repeat' split
  all_goals first | exact ByL.nil | exact h
theorem unA_by : ∀ (f : List UInt8) (X : List Av) (b : List Int), ByL b → (∀ v ∈ X, ByL v.b) → ∀ v ∈ (unA X f b).1, ByL v.b
  | [], X, b, _, h => by
    unfold unA
    split
    · exact h
    · intro v hv; simp at hv
  | c :: f, X, b, hb, h => by
    unfold unA
    split
    · intro v hv; simp at hv
    · refine unA_by f _ _ (hb.drop _) fun v hv => ?_
      rcases List.mem_append.1 hv with hv | hv
      · exact h v hv
      · simp at hv; subst hv; exact gv_by hb
theorem setL_by : ∀ (l : List Av) (r : Rq) (i : Nat), ByL r.d → (∀ v ∈ l, ByL v.b) → ByL (setL r i l).d
  | [], r, i, h, _ => h
  | v :: l, r, i, h, hl => setL_by l _ _ (by
      unfold setA
      repeat' split
      all_goals first | exact h | exact hl v (by simp)) fun u hu => hl u (by simp [hu])
theorem dec_by {m : Ms} (h : ByL m.body) : ByL (decR m).1.d := by
  unfold decR
  split
  · unfold decU
    split
    · split
      · refine setL_by _ _ _ ByL.nil ?_
        unfold unR
        split
        · exact unA_by _ [] _ h fun v hv => by simp at hv
        · intro v hv; simp at hv
      · exact ByL.nil
    · exact ByL.nil
  · exact ByL.nil
theorem far_msg {w : World} {b : Nat} {u v : Int} {A A9 : Option Addr} {n c m c9 : Nat} {t : TypeId} {L : List Int} (hX : At w b #[.int .i64 u, .int .i64 v, .slice A n c] t) (hs : Sv w (.slice A9 m c9) L) : Far L (.slice A9 m c9) (some b) := by
  obtain ⟨A', c', h0, _, _, _, hr⟩ := hs
  injection h0 with e1 e2 e3
  subst e1
  rcases hr with h | ⟨b', off, rfl, hr⟩
  · exact .inl h
  · cases L with
    | nil => exact .inl rfl
    | cons x L =>
      refine .inr (.inr fun e => ?_)
      have e' : b' = b := by simpa [Value.ownBlock] using e
      subst e'
      have h1 := hr 0 x rfl
      rw [Nat.add_zero, hX.cell off] at h1
      match off, h1 with
      | 0, h1 => simp at h1
      | 1, h1 => simp at h1
      | 2, h1 => simp at h1
      | k + 3, h1 => simp at h1
/-- A message that was written. -/
def EncQ (w : World) (p : Ms × Int) (e : Ending) (w' : World) : Prop := ∃ v, e = .returned (.tuple #[.agg #[.int .i64 p.1.op, .int .i64 p.1.id, v], .int .i64 p.2]) ∧ Sv w' v p.1.body ∧ Bl w w'
theorem put3_at {w : World} {b : Nat} {z0 z1 z2 : Value} {t : TypeId} (h : At w b #[z0, z1, z2] t) (u0 u1 u2 : Value) : At (((w.setCell ⟨b, 0, none⟩ u0).setCell ⟨b, 1, none⟩ u1).setCell ⟨b, 2, none⟩ u2) b #[u0, u1, u2] t := by
  have := ((h.put 0 u0).put 1 u1).put 2 u2
  unfold At at *
  simpa using this
theorem put3_bl {a w : World} {b : Nat} (h : Bl a w) (hb : a.heap.size ≤ b) (u0 u1 u2 : Value) : Bl a (((w.setCell ⟨b, 0, none⟩ u0).setCell ⟨b, 1, none⟩ u1).setCell ⟨b, 2, none⟩ u2) :=
  ((h.setCell (p := ⟨b, 0, none⟩) hb u0).setCell (p := ⟨b, 1, none⟩) hb u1).setCell (p := ⟨b, 2, none⟩) hb u2
theorem put3_by {a w : World} {b : Nat} (h : a.grownBy w (some b)) (u0 u1 u2 : Value) : a.grownBy (((w.setCell ⟨b, 0, none⟩ u0).setCell ⟨b, 1, none⟩ u1).setCell ⟨b, 2, none⟩ u2) (some b) :=
  By.set (p := ⟨b, 2, none⟩) (By.set (p := ⟨b, 1, none⟩) (By.set (p := ⟨b, 0, none⟩) h u0) u1) u2
set_option maxRecDepth 100000 in
set_option maxHeartbeats 2000000 in
theorem enc0 (r : Rq) (d : Value) (w : World) (hd : Sv w d r.d) (ho : ¬ (0 ≤ r.op ∧ r.op ≤ 18)) :
    Calls Tryd.prog 20 #[vQ r d] w (EncQ w (encR r)) := by
  have e : encR r = (zM, 12) := by unfold encR; rw [if_neg ho]
  rw [e]
  obtain ⟨A, c, rfl, _⟩ := hd
  have c1 := fun V => find0 r.op ho V
  obtain ⟨op, id, a, b, x0, y0, x1, y1, s, L⟩ := r
  unfold vQ
  dsimp only at *
  generalize L.length = n at *
  go_enter Tryd.func20, Tryd.ntmps20
  go_wp2_with fail
  refine (c1 _).mono ?_
  rintro e w1 ⟨rfl, g1⟩
  have X0 := ((At.new w #[.int .i64 op, .int .i64 id, .int .i64 a, .int .i64 b, .int .i64 x0, .int .i64 y0, .int .i64 x1, .int .i64 y1, .string s, .slice A n c] 36).alloc (.cells #[.int .i64 0, .int .i64 0, .slice none 0 0] 24)).gr g1
  have X1 := (At.newAt (w := w.alloc (.cells #[.int .i64 op, .int .i64 id, .int .i64 a, .int .i64 b, .int .i64 x0, .int .i64 y0, .int .i64 x1, .int .i64 y1, .string s, .slice A n c] 36)) (n := w.heap.size + 1) (by simp) #[.int .i64 0, .int .i64 0, .slice none 0 0] 24).gr g1
  have G1 : Bl w w1 := (((Bl.refl w).alloc _).alloc _).gr g1
  have X2 := X1.alloc (.cells #[.string ⟨#[]⟩, .string ⟨#[]⟩, .nilFunc] 97)
  have G2 := G1.alloc (.cells #[.string ⟨#[]⟩, .string ⟨#[]⟩, .nilFunc] 97)
  have k0 : (w1.alloc (.cells #[.string ⟨#[]⟩, .string ⟨#[]⟩, .nilFunc] 97)).cell? ⟨w.heap.size + 1, 0, none⟩ = some (.int .i64 0) := (X2.cell 0).trans rfl
  have f0 : (w1.alloc (.cells #[.string ⟨#[]⟩, .string ⟨#[]⟩, .nilFunc] 97)).frozen? ⟨w.heap.size + 1, 0, none⟩ = false := X2.free 0
  have k1 : (w1.alloc (.cells #[.string ⟨#[]⟩, .string ⟨#[]⟩, .nilFunc] 97)).cell? ⟨w.heap.size + 1, 1, none⟩ = some (.int .i64 0) := (X2.cell 1).trans rfl
  have f1 : (w1.alloc (.cells #[.string ⟨#[]⟩, .string ⟨#[]⟩, .nilFunc] 97)).frozen? ⟨w.heap.size + 1, 1, none⟩ = false := X2.free 1
  have k2 : (w1.alloc (.cells #[.string ⟨#[]⟩, .string ⟨#[]⟩, .nilFunc] 97)).cell? ⟨w.heap.size + 1, 2, none⟩ = some (.slice none 0 0) := (X2.cell 2).trans rfl
  have f2 : (w1.alloc (.cells #[.string ⟨#[]⟩, .string ⟨#[]⟩, .nilFunc] 97)).frozen? ⟨w.heap.size + 1, 2, none⟩ = false := X2.free 2
  go_wp2
  clear k0 f0 k1 f1 k2 f2
  have Y := put3_at X2 (.int .i64 0) (.int .i64 0) (.slice none 0 0)
  have GY := put3_bl (b := w.heap.size + 1) G2 (by omega) (.int .i64 0) (.int .i64 0) (.slice none 0 0)
  generalize ((((w1.alloc (.cells #[.string ⟨#[]⟩, .string ⟨#[]⟩, .nilFunc] 97)).setCell ⟨w.heap.size + 1, 0, none⟩ (.int .i64 0)).setCell ⟨w.heap.size + 1, 1, none⟩ (.int .i64 0)).setCell ⟨w.heap.size + 1, 2, none⟩ (.slice none 0 0)) = VV at *
  have d0 : VV.cell? ⟨w.heap.size + 1, 0, none⟩ = some (.int .i64 0) := (Y.cell 0).trans rfl
  have d1 : VV.cell? ⟨w.heap.size + 1, 1, none⟩ = some (.int .i64 0) := (Y.cell 1).trans rfl
  have d2 : VV.cell? ⟨w.heap.size + 1, 2, none⟩ = some (.slice none 0 0) := (Y.cell 2).trans rfl
  exact bodyPost_ret (v := .tuple #[.agg #[.int .i64 0, .int .i64 0, .slice none 0 0], .int .i64 12]) (by simp [results, Tryd.results20, go_sem, d0, d1, d2]) rfl ⟨.slice none 0 0, rfl, Sv.nil _, GY⟩
set_option maxRecDepth 100000 in
set_option maxHeartbeats 2000000 in
theorem enc_short (N n : Nat) (_hN : N < 19) (id a b x0 y0 x1 y1 : Int) (s : ByteArray) (A : Option Addr) (c : Nat) (w : World) (F M : ByteArray) (g : Nat) (l : List Av) (p : List Int × Int) (got : Rq × Int) (L : List Int) (sm : Bool)
    (_hN1 : L.length = n) (_hsv : Sv w (.slice A n c) L)
    (c1 : ∀ V, Calls Tryd.prog 48 #[.int .i64 N] V (Rt V (.tuple #[.agg #[.string M, .string F, .func (.func g) #[] #[]], .bool true])))
    (ca : ∀ V, Bl w V → Calls Tryd.prog 55 #[.string F, .agg #[.int .i64 N, .int .i64 id, .int .i64 a, .int .i64 b, .int .i64 x0, .int .i64 y0, .int .i64 x1, .int .i64 y1, .string s, .slice A n c]] V (fun e w' => ∃ A' c' xs, e = .returned (.slice A' (xs : List Value).length c') ∧ Yv w' A' xs ∧ AllA w' xs l ∧ Bl V w'))
    (cp : ∀ A' c' xs V, Yv V A' xs → AllA V xs l → Calls Tryd.prog 54 #[.string F, .slice A' xs.length c'] V (PackQ V p))
    (_cd : ∀ A' c' V, Sv V (.slice A' p.1.length c') p.1 → Calls Tryd.prog 16 #[.agg #[.int .i64 N, .int .i64 id, .slice A' p.1.length c']] V (DecQ V (fun k => V.heap.size ≤ k) got))
    (_cs : ∀ V d, Bl w V → Sv V d got.1.d → Calls Tryd.prog 23 #[vQ got.1 d, .agg #[.int .i64 N, .int .i64 id, .int .i64 a, .int .i64 b, .int .i64 x0, .int .i64 y0, .int .i64 x1, .int .i64 y1, .string s, .slice A n c]] V (Rt V (.bool sm))) (hE : ¬ p.2 = 0) :
    Calls Tryd.prog 20 #[.agg #[.int .i64 N, .int .i64 id, .int .i64 a, .int .i64 b, .int .i64 x0, .int .i64 y0, .int .i64 x1, .int .i64 y1, .string s, .slice A n c]] w (EncQ w (zM, 1)) := by
  clear _cd _cs
  go_enter Tryd.func20, Tryd.ntmps20
  go_wp2_with fail
  refine (c1 _).mono ?_
  rintro e w1 ⟨rfl, g1⟩
  have X0 := ((At.new w #[.int .i64 N, .int .i64 id, .int .i64 a, .int .i64 b, .int .i64 x0, .int .i64 y0, .int .i64 x1, .int .i64 y1, .string s, .slice A n c] 36).alloc (.cells #[.int .i64 0, .int .i64 0, .slice none 0 0] 24)).gr g1
  have X1 := (At.newAt (w := w.alloc (.cells #[.int .i64 N, .int .i64 id, .int .i64 a, .int .i64 b, .int .i64 x0, .int .i64 y0, .int .i64 x1, .int .i64 y1, .string s, .slice A n c] 36)) (n := w.heap.size + 1) (by simp) #[.int .i64 0, .int .i64 0, .slice none 0 0] 24).gr g1
  have G1 : Bl w w1 := (((Bl.refl w).alloc _).alloc _).gr g1
  have X02 := X0.alloc (.cells #[.string M, .string F, .func (.func g) #[] #[]] 97)
  have X12 := X1.alloc (.cells #[.string M, .string F, .func (.func g) #[] #[]] 97)
  have X22 := At.new w1 #[.string M, .string F, .func (.func g) #[] #[]] 97
  have G2 := G1.alloc (.cells #[.string M, .string F, .func (.func g) #[] #[]] 97)
  go_wp2
  generalize (w1.alloc (.cells #[.string M, .string F, .func (.func g) #[] #[]] 97)) = w0 at *
  have SK : ∀ V, Bl w0 V → V.cell? ⟨w1.heap.size, 1, none⟩ = some (.string F) ∧ V.cell? ⟨w.heap.size, 0, none⟩ = some (.int .i64 N) ∧ V.cell? ⟨w.heap.size, 1, none⟩ = some (.int .i64 id) ∧ V.cell? ⟨w.heap.size, 2, none⟩ = some (.int .i64 a) ∧ V.cell? ⟨w.heap.size, 3, none⟩ = some (.int .i64 b) ∧ V.cell? ⟨w.heap.size, 4, none⟩ = some (.int .i64 x0) ∧ V.cell? ⟨w.heap.size, 5, none⟩ = some (.int .i64 y0) ∧ V.cell? ⟨w.heap.size, 6, none⟩ = some (.int .i64 x1) ∧ V.cell? ⟨w.heap.size, 7, none⟩ = some (.int .i64 y1) ∧ V.cell? ⟨w.heap.size, 8, none⟩ = some (.string s) ∧ V.cell? ⟨w.heap.size, 9, none⟩ = some (.slice A n c) ∧ Bl w0 V := fun V g => ⟨((X22.bl g).cell 1).trans rfl, ((X02.bl g).cell 0).trans rfl, ((X02.bl g).cell 1).trans rfl, ((X02.bl g).cell 2).trans rfl, ((X02.bl g).cell 3).trans rfl, ((X02.bl g).cell 4).trans rfl, ((X02.bl g).cell 5).trans rfl, ((X02.bl g).cell 6).trans rfl, ((X02.bl g).cell 7).trans rfl, ((X02.bl g).cell 8).trans rfl, ((X02.bl g).cell 9).trans rfl, g⟩
  replace SK := Lib.hid SK
  go_region_held3 (fun V => V.cell? ⟨w1.heap.size, 1, none⟩ = some (.string F) ∧ V.cell? ⟨w.heap.size, 0, none⟩ = some (.int .i64 N) ∧ V.cell? ⟨w.heap.size, 1, none⟩ = some (.int .i64 id) ∧ V.cell? ⟨w.heap.size, 2, none⟩ = some (.int .i64 a) ∧ V.cell? ⟨w.heap.size, 3, none⟩ = some (.int .i64 b) ∧ V.cell? ⟨w.heap.size, 4, none⟩ = some (.int .i64 x0) ∧ V.cell? ⟨w.heap.size, 5, none⟩ = some (.int .i64 y0) ∧ V.cell? ⟨w.heap.size, 6, none⟩ = some (.int .i64 x1) ∧ V.cell? ⟨w.heap.size, 7, none⟩ = some (.int .i64 y1) ∧ V.cell? ⟨w.heap.size, 8, none⟩ = some (.string s) ∧ V.cell? ⟨w.heap.size, 9, none⟩ = some (.slice A n c) ∧ Bl w0 V) ((refine SK.out _ ?_; repeat (first | with_reducible assumption | with_reducible exact Bl.refl _ | with_reducible exact (And.right (And.right (And.right (And.right (And.right (And.right (And.right (And.right (And.right (And.right (And.right (by assumption)))))))))))) | with_reducible exact Bl.trans (And.right (And.right (And.right (And.right (And.right (And.right (And.right (And.right (And.right (And.right (And.right (by assumption)))))))))))) (by assumption) | with_reducible apply Bl.drew))) ((first | (go_at_call 55; (refine (ca _ (G2.trans (And.right (And.right (And.right (And.right (And.right (And.right (And.right (And.right (And.right (And.right (And.right (by assumption)))))))))))))).mono ?_); rintro e V8 ⟨A8, c8, xs, rfl, hY8, hall8, g8⟩; have G8 : Bl w0 V8 := Bl.trans (And.right (And.right (And.right (And.right (And.right (And.right (And.right (And.right (And.right (And.right (And.right (by assumption)))))))))))) g8) | (go_at_call 54; (refine (cp _ _ _ _ (by first | exact hY8 | exact hY8.bl (Bl.refl _).drew) (by first | exact hall8 | exact hall8.bl (Bl.refl _).drew)).mono ?_); rintro e w2 ⟨A9, c9, rfl, hsv9, g9⟩; have G9 : Bl w0 w2 := Bl.trans (And.right (And.right (And.right (And.right (And.right (And.right (And.right (And.right (And.right (And.right (And.right (by assumption)))))))))))) g9)))
  have G3 : Bl w w2 := G2.trans G9
  have X03 := X02.bl G9
  have X13 := X12.bl G9
  clear SK X0 X1 X02 X12 X22
  have k0 : (w2).cell? ⟨w.heap.size + 1, 0, none⟩ = some (.int .i64 0) := (X13.cell 0).trans rfl
  have f0 : (w2).frozen? ⟨w.heap.size + 1, 0, none⟩ = false := X13.free 0
  have k1 : (w2).cell? ⟨w.heap.size + 1, 1, none⟩ = some (.int .i64 0) := (X13.cell 1).trans rfl
  have f1 : (w2).frozen? ⟨w.heap.size + 1, 1, none⟩ = false := X13.free 1
  have k2 : (w2).cell? ⟨w.heap.size + 1, 2, none⟩ = some (.slice none 0 0) := (X13.cell 2).trans rfl
  have f2 : (w2).frozen? ⟨w.heap.size + 1, 2, none⟩ = false := X13.free 2
  generalize p.1.length = pn at *
  go_wp2
  clear k0 f0 k1 f1 k2 f2
  have Y := put3_at X13 (.int .i64 0) (.int .i64 0) (.slice none 0 0)
  have GY := put3_bl (b := w.heap.size + 1) G3 (by omega) (.int .i64 0) (.int .i64 0) (.slice none 0 0)
  generalize (((w2.setCell ⟨w.heap.size + 1, 0, none⟩ (.int .i64 0)).setCell ⟨w.heap.size + 1, 1, none⟩ (.int .i64 0)).setCell ⟨w.heap.size + 1, 2, none⟩ (.slice none 0 0)) = VV at *
  have d0 : VV.cell? ⟨w.heap.size + 1, 0, none⟩ = some (.int .i64 0) := (Y.cell 0).trans rfl
  have d1 : VV.cell? ⟨w.heap.size + 1, 1, none⟩ = some (.int .i64 0) := (Y.cell 1).trans rfl
  have d2 : VV.cell? ⟨w.heap.size + 1, 2, none⟩ = some (.slice none 0 0) := (Y.cell 2).trans rfl
  exact bodyPost_ret (v := .tuple #[.agg #[.int .i64 0, .int .i64 0, .slice none 0 0], .int .i64 1]) (by simp [results, Tryd.results20, go_sem, d0, d1, d2]) rfl ⟨.slice none 0 0, rfl, Sv.nil _, GY⟩
set_option maxRecDepth 100000 in
set_option maxHeartbeats 2000000 in
theorem enc_err (N n : Nat) (_hN : N < 19) (id a b x0 y0 x1 y1 : Int) (s : ByteArray) (A : Option Addr) (c : Nat) (w : World) (F M : ByteArray) (g : Nat) (l : List Av) (p : List Int × Int) (got : Rq × Int) (L : List Int) (sm : Bool)
    (_hN1 : L.length = n) (_hsv : Sv w (.slice A n c) L)
    (c1 : ∀ V, Calls Tryd.prog 48 #[.int .i64 N] V (Rt V (.tuple #[.agg #[.string M, .string F, .func (.func g) #[] #[]], .bool true])))
    (ca : ∀ V, Bl w V → Calls Tryd.prog 55 #[.string F, .agg #[.int .i64 N, .int .i64 id, .int .i64 a, .int .i64 b, .int .i64 x0, .int .i64 y0, .int .i64 x1, .int .i64 y1, .string s, .slice A n c]] V (fun e w' => ∃ A' c' xs, e = .returned (.slice A' (xs : List Value).length c') ∧ Yv w' A' xs ∧ AllA w' xs l ∧ Bl V w'))
    (cp : ∀ A' c' xs V, Yv V A' xs → AllA V xs l → Calls Tryd.prog 54 #[.string F, .slice A' xs.length c'] V (PackQ V p))
    (cd : ∀ A' c' V, Sv V (.slice A' p.1.length c') p.1 → Calls Tryd.prog 16 #[.agg #[.int .i64 N, .int .i64 id, .slice A' p.1.length c']] V (DecQ V (fun k => V.heap.size ≤ k) got))
    (_cs : ∀ V d, Bl w V → Sv V d got.1.d → Calls Tryd.prog 23 #[vQ got.1 d, .agg #[.int .i64 N, .int .i64 id, .int .i64 a, .int .i64 b, .int .i64 x0, .int .i64 y0, .int .i64 x1, .int .i64 y1, .string s, .slice A n c]] V (Rt V (.bool sm))) (hE : p.2 = 0) (hf : ¬ got.2 = 0) :
    Calls Tryd.prog 20 #[.agg #[.int .i64 N, .int .i64 id, .int .i64 a, .int .i64 b, .int .i64 x0, .int .i64 y0, .int .i64 x1, .int .i64 y1, .string s, .slice A n c]] w (EncQ w (zM, 1)) := by
  clear _cs
  obtain ⟨pl, pe⟩ := p
  dsimp only at hE
  subst hE
  go_enter Tryd.func20, Tryd.ntmps20
  go_wp2_with fail
  refine (c1 _).mono ?_
  rintro e w1 ⟨rfl, g1⟩
  have X0 := ((At.new w #[.int .i64 N, .int .i64 id, .int .i64 a, .int .i64 b, .int .i64 x0, .int .i64 y0, .int .i64 x1, .int .i64 y1, .string s, .slice A n c] 36).alloc (.cells #[.int .i64 0, .int .i64 0, .slice none 0 0] 24)).gr g1
  have X1 := (At.newAt (w := w.alloc (.cells #[.int .i64 N, .int .i64 id, .int .i64 a, .int .i64 b, .int .i64 x0, .int .i64 y0, .int .i64 x1, .int .i64 y1, .string s, .slice A n c] 36)) (n := w.heap.size + 1) (by simp) #[.int .i64 0, .int .i64 0, .slice none 0 0] 24).gr g1
  have G1 : Bl w w1 := (((Bl.refl w).alloc _).alloc _).gr g1
  have X02 := X0.alloc (.cells #[.string M, .string F, .func (.func g) #[] #[]] 97)
  have X12 := X1.alloc (.cells #[.string M, .string F, .func (.func g) #[] #[]] 97)
  have X22 := At.new w1 #[.string M, .string F, .func (.func g) #[] #[]] 97
  have G2 := G1.alloc (.cells #[.string M, .string F, .func (.func g) #[] #[]] 97)
  go_wp2
  generalize (w1.alloc (.cells #[.string M, .string F, .func (.func g) #[] #[]] 97)) = w0 at *
  have SK : ∀ V, Bl w0 V → V.cell? ⟨w1.heap.size, 1, none⟩ = some (.string F) ∧ V.cell? ⟨w.heap.size, 0, none⟩ = some (.int .i64 N) ∧ V.cell? ⟨w.heap.size, 1, none⟩ = some (.int .i64 id) ∧ V.cell? ⟨w.heap.size, 2, none⟩ = some (.int .i64 a) ∧ V.cell? ⟨w.heap.size, 3, none⟩ = some (.int .i64 b) ∧ V.cell? ⟨w.heap.size, 4, none⟩ = some (.int .i64 x0) ∧ V.cell? ⟨w.heap.size, 5, none⟩ = some (.int .i64 y0) ∧ V.cell? ⟨w.heap.size, 6, none⟩ = some (.int .i64 x1) ∧ V.cell? ⟨w.heap.size, 7, none⟩ = some (.int .i64 y1) ∧ V.cell? ⟨w.heap.size, 8, none⟩ = some (.string s) ∧ V.cell? ⟨w.heap.size, 9, none⟩ = some (.slice A n c) ∧ Bl w0 V := fun V g => ⟨((X22.bl g).cell 1).trans rfl, ((X02.bl g).cell 0).trans rfl, ((X02.bl g).cell 1).trans rfl, ((X02.bl g).cell 2).trans rfl, ((X02.bl g).cell 3).trans rfl, ((X02.bl g).cell 4).trans rfl, ((X02.bl g).cell 5).trans rfl, ((X02.bl g).cell 6).trans rfl, ((X02.bl g).cell 7).trans rfl, ((X02.bl g).cell 8).trans rfl, ((X02.bl g).cell 9).trans rfl, g⟩
  replace SK := Lib.hid SK
  go_region_held3 (fun V => V.cell? ⟨w1.heap.size, 1, none⟩ = some (.string F) ∧ V.cell? ⟨w.heap.size, 0, none⟩ = some (.int .i64 N) ∧ V.cell? ⟨w.heap.size, 1, none⟩ = some (.int .i64 id) ∧ V.cell? ⟨w.heap.size, 2, none⟩ = some (.int .i64 a) ∧ V.cell? ⟨w.heap.size, 3, none⟩ = some (.int .i64 b) ∧ V.cell? ⟨w.heap.size, 4, none⟩ = some (.int .i64 x0) ∧ V.cell? ⟨w.heap.size, 5, none⟩ = some (.int .i64 y0) ∧ V.cell? ⟨w.heap.size, 6, none⟩ = some (.int .i64 x1) ∧ V.cell? ⟨w.heap.size, 7, none⟩ = some (.int .i64 y1) ∧ V.cell? ⟨w.heap.size, 8, none⟩ = some (.string s) ∧ V.cell? ⟨w.heap.size, 9, none⟩ = some (.slice A n c) ∧ Bl w0 V) ((refine SK.out _ ?_; repeat (first | with_reducible assumption | with_reducible exact Bl.refl _ | with_reducible exact (And.right (And.right (And.right (And.right (And.right (And.right (And.right (And.right (And.right (And.right (And.right (by assumption)))))))))))) | with_reducible exact Bl.trans (And.right (And.right (And.right (And.right (And.right (And.right (And.right (And.right (And.right (And.right (And.right (by assumption)))))))))))) (by assumption) | with_reducible apply Bl.drew))) ((first | (go_at_call 55; (refine (ca _ (G2.trans (And.right (And.right (And.right (And.right (And.right (And.right (And.right (And.right (And.right (And.right (And.right (by assumption)))))))))))))).mono ?_); rintro e V8 ⟨A8, c8, xs, rfl, hY8, hall8, g8⟩; have G8 : Bl w0 V8 := Bl.trans (And.right (And.right (And.right (And.right (And.right (And.right (And.right (And.right (And.right (And.right (And.right (by assumption)))))))))))) g8) | (go_at_call 54; (refine (cp _ _ _ _ (by first | exact hY8 | exact hY8.bl (Bl.refl _).drew) (by first | exact hall8 | exact hall8.bl (Bl.refl _).drew)).mono ?_); rintro e w2 ⟨A9, c9, rfl, hsv9, g9⟩; have G9 : Bl w0 w2 := Bl.trans (And.right (And.right (And.right (And.right (And.right (And.right (And.right (And.right (And.right (And.right (And.right (by assumption)))))))))))) g9)))
  have G3 : Bl w w2 := G2.trans G9
  have X03 := X02.bl G9
  have X13 := X12.bl G9
  clear SK X0 X1 X02 X12 X22
  have L0 := X03.lt
  have L1 := X13.lt
  have a0 : w2.cell? ⟨w.heap.size, 0, none⟩ = some (.int .i64 N) := (X03.cell 0).trans rfl
  have a1 : w2.cell? ⟨w.heap.size, 1, none⟩ = some (.int .i64 id) := (X03.cell 1).trans rfl
  obtain ⟨pn, hpn⟩ : ∃ pn, pn = pl.length := ⟨_, rfl⟩
  have hfar := far_msg X13 hsv9
  rw [← hpn] at hfar
  replace hfar := Lib.hid hfar
  have cd1 := cd A9 c9 (w2.alloc (.cells #[.int .i64 N, .int .i64 id, .slice A9 pl.length c9] 24)) (hsv9.bl ((Bl.refl w2).alloc _))
  rw [← hpn] at cd1 hsv9 ⊢
  have X04 := X03.alloc (.cells #[.int .i64 N, .int .i64 id, .slice A9 pn c9] 24)
  have X14 := X13.alloc (.cells #[.int .i64 N, .int .i64 id, .slice A9 pn c9] 24)
  have X34 := At.new w2 #[.int .i64 N, .int .i64 id, .slice A9 pn c9] 24
  have G4 := G3.alloc (.cells #[.int .i64 N, .int .i64 id, .slice A9 pn c9] 24)
  replace hsv9 := Lib.hid hsv9
  replace hpn := Lib.hid hpn
  clear cd
  go_wp2_with fail
  refine cd1.mono ?_
  rintro e w3 ⟨dg, rfl, hQg, g10⟩
  obtain ⟨⟨gop, gid, ga, gb, gx0, gy0, gx1, gy1, gs, gd⟩, gerr⟩ := got
  obtain ⟨Ag, cg, rfl, hAg⟩ := hQg.sv
  have hsg : Sv w3 (.slice Ag gd.length cg) gd := ⟨Ag, cg, rfl, hAg⟩
  unfold vQ at *
  dsimp only at *
  obtain ⟨gn, hgn⟩ : ∃ gn, gn = gd.length := ⟨_, rfl⟩
  rw [← hgn] at hsg ⊢
  replace hgn := Lib.hid hgn
  have hsv3 := (hsv9.out.bl ((Bl.refl w2).alloc (.cells #[.int .i64 N, .int .i64 id, .slice A9 pn c9] 24))).bl g10
  replace hsv3 := Lib.hid hsv3
  clear hQg hAg cd1 a0 a1 X03 X13 G3
  have G5 := (G4.trans g10).alloc (.cells #[.int .i64 gop, .int .i64 gid, .int .i64 ga, .int .i64 gb, .int .i64 gx0, .int .i64 gy0, .int .i64 gx1, .int .i64 gy1, .string gs, .slice Ag gn cg] 36)
  have X05 := (X04.bl g10).alloc (.cells #[.int .i64 gop, .int .i64 gid, .int .i64 ga, .int .i64 gb, .int .i64 gx0, .int .i64 gy0, .int .i64 gx1, .int .i64 gy1, .string gs, .slice Ag gn cg] 36)
  have X15 := (X14.bl g10).alloc (.cells #[.int .i64 gop, .int .i64 gid, .int .i64 ga, .int .i64 gb, .int .i64 gx0, .int .i64 gy0, .int .i64 gx1, .int .i64 gy1, .string gs, .slice Ag gn cg] 36)
  have X35 := (X34.bl g10).alloc (.cells #[.int .i64 gop, .int .i64 gid, .int .i64 ga, .int .i64 gb, .int .i64 gx0, .int .i64 gy0, .int .i64 gx1, .int .i64 gy1, .string gs, .slice Ag gn cg] 36)
  have hsg5 := hsg.bl ((Bl.refl w3).alloc (.cells #[.int .i64 gop, .int .i64 gid, .int .i64 ga, .int .i64 gb, .int .i64 gx0, .int .i64 gy0, .int .i64 gx1, .int .i64 gy1, .string gs, .slice Ag gn cg] 36))
  have hsv5 := hsv3.out.bl ((Bl.refl w3).alloc (.cells #[.int .i64 gop, .int .i64 gid, .int .i64 ga, .int .i64 gb, .int .i64 gx0, .int .i64 gy0, .int .i64 gx1, .int .i64 gy1, .string gs, .slice Ag gn cg] 36))
  replace hsg5 := Lib.hid hsg5
  replace hsv5 := Lib.hid hsv5
  clear X04 X14 X34 G4
  have k0 : ((w3.alloc (.cells #[.int .i64 gop, .int .i64 gid, .int .i64 ga, .int .i64 gb, .int .i64 gx0, .int .i64 gy0, .int .i64 gx1, .int .i64 gy1, .string gs, .slice Ag gn cg] 36))).cell? ⟨w.heap.size + 1, 0, none⟩ = some (.int .i64 0) := (X15.cell 0).trans rfl
  have f0 : ((w3.alloc (.cells #[.int .i64 gop, .int .i64 gid, .int .i64 ga, .int .i64 gb, .int .i64 gx0, .int .i64 gy0, .int .i64 gx1, .int .i64 gy1, .string gs, .slice Ag gn cg] 36))).frozen? ⟨w.heap.size + 1, 0, none⟩ = false := X15.free 0
  have k1 : ((w3.alloc (.cells #[.int .i64 gop, .int .i64 gid, .int .i64 ga, .int .i64 gb, .int .i64 gx0, .int .i64 gy0, .int .i64 gx1, .int .i64 gy1, .string gs, .slice Ag gn cg] 36))).cell? ⟨w.heap.size + 1, 1, none⟩ = some (.int .i64 0) := (X15.cell 1).trans rfl
  have f1 : ((w3.alloc (.cells #[.int .i64 gop, .int .i64 gid, .int .i64 ga, .int .i64 gb, .int .i64 gx0, .int .i64 gy0, .int .i64 gx1, .int .i64 gy1, .string gs, .slice Ag gn cg] 36))).frozen? ⟨w.heap.size + 1, 1, none⟩ = false := X15.free 1
  have k2 : ((w3.alloc (.cells #[.int .i64 gop, .int .i64 gid, .int .i64 ga, .int .i64 gb, .int .i64 gx0, .int .i64 gy0, .int .i64 gx1, .int .i64 gy1, .string gs, .slice Ag gn cg] 36))).cell? ⟨w.heap.size + 1, 2, none⟩ = some (.slice none 0 0) := (X15.cell 2).trans rfl
  have f2 : ((w3.alloc (.cells #[.int .i64 gop, .int .i64 gid, .int .i64 ga, .int .i64 gb, .int .i64 gx0, .int .i64 gy0, .int .i64 gx1, .int .i64 gy1, .string gs, .slice Ag gn cg] 36))).frozen? ⟨w.heap.size + 1, 2, none⟩ = false := X15.free 2
  go_wp2
  clear k0 f0 k1 f1 k2 f2
  have Y := put3_at X15 (.int .i64 0) (.int .i64 0) (.slice none 0 0)
  have GY := put3_bl (b := w.heap.size + 1) G5 (by omega) (.int .i64 0) (.int .i64 0) (.slice none 0 0)
  generalize ((((w3.alloc (.cells #[.int .i64 gop, .int .i64 gid, .int .i64 ga, .int .i64 gb, .int .i64 gx0, .int .i64 gy0, .int .i64 gx1, .int .i64 gy1, .string gs, .slice Ag gn cg] 36)).setCell ⟨w.heap.size + 1, 0, none⟩ (.int .i64 0)).setCell ⟨w.heap.size + 1, 1, none⟩ (.int .i64 0)).setCell ⟨w.heap.size + 1, 2, none⟩ (.slice none 0 0)) = VV at *
  have d0 : VV.cell? ⟨w.heap.size + 1, 0, none⟩ = some (.int .i64 0) := (Y.cell 0).trans rfl
  have d1 : VV.cell? ⟨w.heap.size + 1, 1, none⟩ = some (.int .i64 0) := (Y.cell 1).trans rfl
  have d2 : VV.cell? ⟨w.heap.size + 1, 2, none⟩ = some (.slice none 0 0) := (Y.cell 2).trans rfl
  exact bodyPost_ret (v := .tuple #[.agg #[.int .i64 0, .int .i64 0, .slice none 0 0], .int .i64 1]) (by simp [results, Tryd.results20, go_sem, d0, d1, d2]) rfl ⟨.slice none 0 0, rfl, Sv.nil _, GY⟩
set_option maxRecDepth 100000 in
set_option maxHeartbeats 2000000 in
theorem enc_not (N n : Nat) (_hN : N < 19) (id a b x0 y0 x1 y1 : Int) (s : ByteArray) (A : Option Addr) (c : Nat) (w : World) (F M : ByteArray) (g : Nat) (l : List Av) (p : List Int × Int) (got : Rq × Int) (L : List Int) (sm : Bool)
    (_hN1 : L.length = n) (_hsv : Sv w (.slice A n c) L)
    (c1 : ∀ V, Calls Tryd.prog 48 #[.int .i64 N] V (Rt V (.tuple #[.agg #[.string M, .string F, .func (.func g) #[] #[]], .bool true])))
    (ca : ∀ V, Bl w V → Calls Tryd.prog 55 #[.string F, .agg #[.int .i64 N, .int .i64 id, .int .i64 a, .int .i64 b, .int .i64 x0, .int .i64 y0, .int .i64 x1, .int .i64 y1, .string s, .slice A n c]] V (fun e w' => ∃ A' c' xs, e = .returned (.slice A' (xs : List Value).length c') ∧ Yv w' A' xs ∧ AllA w' xs l ∧ Bl V w'))
    (cp : ∀ A' c' xs V, Yv V A' xs → AllA V xs l → Calls Tryd.prog 54 #[.string F, .slice A' xs.length c'] V (PackQ V p))
    (cd : ∀ A' c' V, Sv V (.slice A' p.1.length c') p.1 → Calls Tryd.prog 16 #[.agg #[.int .i64 N, .int .i64 id, .slice A' p.1.length c']] V (DecQ V (fun k => V.heap.size ≤ k) got))
    (cs : ∀ V d, Bl w V → Sv V d got.1.d → Calls Tryd.prog 23 #[vQ got.1 d, .agg #[.int .i64 N, .int .i64 id, .int .i64 a, .int .i64 b, .int .i64 x0, .int .i64 y0, .int .i64 x1, .int .i64 y1, .string s, .slice A n c]] V (Rt V (.bool sm))) (hE : p.2 = 0) (hf : got.2 = 0) (hs : sm = false) :
    Calls Tryd.prog 20 #[.agg #[.int .i64 N, .int .i64 id, .int .i64 a, .int .i64 b, .int .i64 x0, .int .i64 y0, .int .i64 x1, .int .i64 y1, .string s, .slice A n c]] w (EncQ w (zM, 1)) := by
  obtain ⟨pl, pe⟩ := p
  obtain ⟨g1', ge⟩ := got
  dsimp only at hE hf
  subst hE hf hs
  go_enter Tryd.func20, Tryd.ntmps20
  go_wp2_with fail
  refine (c1 _).mono ?_
  rintro e w1 ⟨rfl, g1⟩
  have X0 := ((At.new w #[.int .i64 N, .int .i64 id, .int .i64 a, .int .i64 b, .int .i64 x0, .int .i64 y0, .int .i64 x1, .int .i64 y1, .string s, .slice A n c] 36).alloc (.cells #[.int .i64 0, .int .i64 0, .slice none 0 0] 24)).gr g1
  have X1 := (At.newAt (w := w.alloc (.cells #[.int .i64 N, .int .i64 id, .int .i64 a, .int .i64 b, .int .i64 x0, .int .i64 y0, .int .i64 x1, .int .i64 y1, .string s, .slice A n c] 36)) (n := w.heap.size + 1) (by simp) #[.int .i64 0, .int .i64 0, .slice none 0 0] 24).gr g1
  have G1 : Bl w w1 := (((Bl.refl w).alloc _).alloc _).gr g1
  have X02 := X0.alloc (.cells #[.string M, .string F, .func (.func g) #[] #[]] 97)
  have X12 := X1.alloc (.cells #[.string M, .string F, .func (.func g) #[] #[]] 97)
  have X22 := At.new w1 #[.string M, .string F, .func (.func g) #[] #[]] 97
  have G2 := G1.alloc (.cells #[.string M, .string F, .func (.func g) #[] #[]] 97)
  go_wp2
  generalize (w1.alloc (.cells #[.string M, .string F, .func (.func g) #[] #[]] 97)) = w0 at *
  have SK : ∀ V, Bl w0 V → V.cell? ⟨w1.heap.size, 1, none⟩ = some (.string F) ∧ V.cell? ⟨w.heap.size, 0, none⟩ = some (.int .i64 N) ∧ V.cell? ⟨w.heap.size, 1, none⟩ = some (.int .i64 id) ∧ V.cell? ⟨w.heap.size, 2, none⟩ = some (.int .i64 a) ∧ V.cell? ⟨w.heap.size, 3, none⟩ = some (.int .i64 b) ∧ V.cell? ⟨w.heap.size, 4, none⟩ = some (.int .i64 x0) ∧ V.cell? ⟨w.heap.size, 5, none⟩ = some (.int .i64 y0) ∧ V.cell? ⟨w.heap.size, 6, none⟩ = some (.int .i64 x1) ∧ V.cell? ⟨w.heap.size, 7, none⟩ = some (.int .i64 y1) ∧ V.cell? ⟨w.heap.size, 8, none⟩ = some (.string s) ∧ V.cell? ⟨w.heap.size, 9, none⟩ = some (.slice A n c) ∧ Bl w0 V := fun V g => ⟨((X22.bl g).cell 1).trans rfl, ((X02.bl g).cell 0).trans rfl, ((X02.bl g).cell 1).trans rfl, ((X02.bl g).cell 2).trans rfl, ((X02.bl g).cell 3).trans rfl, ((X02.bl g).cell 4).trans rfl, ((X02.bl g).cell 5).trans rfl, ((X02.bl g).cell 6).trans rfl, ((X02.bl g).cell 7).trans rfl, ((X02.bl g).cell 8).trans rfl, ((X02.bl g).cell 9).trans rfl, g⟩
  replace SK := Lib.hid SK
  go_region_held3 (fun V => V.cell? ⟨w1.heap.size, 1, none⟩ = some (.string F) ∧ V.cell? ⟨w.heap.size, 0, none⟩ = some (.int .i64 N) ∧ V.cell? ⟨w.heap.size, 1, none⟩ = some (.int .i64 id) ∧ V.cell? ⟨w.heap.size, 2, none⟩ = some (.int .i64 a) ∧ V.cell? ⟨w.heap.size, 3, none⟩ = some (.int .i64 b) ∧ V.cell? ⟨w.heap.size, 4, none⟩ = some (.int .i64 x0) ∧ V.cell? ⟨w.heap.size, 5, none⟩ = some (.int .i64 y0) ∧ V.cell? ⟨w.heap.size, 6, none⟩ = some (.int .i64 x1) ∧ V.cell? ⟨w.heap.size, 7, none⟩ = some (.int .i64 y1) ∧ V.cell? ⟨w.heap.size, 8, none⟩ = some (.string s) ∧ V.cell? ⟨w.heap.size, 9, none⟩ = some (.slice A n c) ∧ Bl w0 V) ((refine SK.out _ ?_; repeat (first | with_reducible assumption | with_reducible exact Bl.refl _ | with_reducible exact (And.right (And.right (And.right (And.right (And.right (And.right (And.right (And.right (And.right (And.right (And.right (by assumption)))))))))))) | with_reducible exact Bl.trans (And.right (And.right (And.right (And.right (And.right (And.right (And.right (And.right (And.right (And.right (And.right (by assumption)))))))))))) (by assumption) | with_reducible apply Bl.drew))) ((first | (go_at_call 55; (refine (ca _ (G2.trans (And.right (And.right (And.right (And.right (And.right (And.right (And.right (And.right (And.right (And.right (And.right (by assumption)))))))))))))).mono ?_); rintro e V8 ⟨A8, c8, xs, rfl, hY8, hall8, g8⟩; have G8 : Bl w0 V8 := Bl.trans (And.right (And.right (And.right (And.right (And.right (And.right (And.right (And.right (And.right (And.right (And.right (by assumption)))))))))))) g8) | (go_at_call 54; (refine (cp _ _ _ _ (by first | exact hY8 | exact hY8.bl (Bl.refl _).drew) (by first | exact hall8 | exact hall8.bl (Bl.refl _).drew)).mono ?_); rintro e w2 ⟨A9, c9, rfl, hsv9, g9⟩; have G9 : Bl w0 w2 := Bl.trans (And.right (And.right (And.right (And.right (And.right (And.right (And.right (And.right (And.right (And.right (And.right (by assumption)))))))))))) g9)))
  have G3 : Bl w w2 := G2.trans G9
  have X03 := X02.bl G9
  have X13 := X12.bl G9
  clear SK X0 X1 X02 X12 X22
  have L0 := X03.lt
  have L1 := X13.lt
  have a0 : w2.cell? ⟨w.heap.size, 0, none⟩ = some (.int .i64 N) := (X03.cell 0).trans rfl
  have a1 : w2.cell? ⟨w.heap.size, 1, none⟩ = some (.int .i64 id) := (X03.cell 1).trans rfl
  obtain ⟨pn, hpn⟩ : ∃ pn, pn = pl.length := ⟨_, rfl⟩
  have hfar := far_msg X13 hsv9
  rw [← hpn] at hfar
  replace hfar := Lib.hid hfar
  have cd1 := cd A9 c9 (w2.alloc (.cells #[.int .i64 N, .int .i64 id, .slice A9 pl.length c9] 24)) (hsv9.bl ((Bl.refl w2).alloc _))
  rw [← hpn] at cd1 hsv9 ⊢
  have X04 := X03.alloc (.cells #[.int .i64 N, .int .i64 id, .slice A9 pn c9] 24)
  have X14 := X13.alloc (.cells #[.int .i64 N, .int .i64 id, .slice A9 pn c9] 24)
  have X34 := At.new w2 #[.int .i64 N, .int .i64 id, .slice A9 pn c9] 24
  have G4 := G3.alloc (.cells #[.int .i64 N, .int .i64 id, .slice A9 pn c9] 24)
  replace hsv9 := Lib.hid hsv9
  replace hpn := Lib.hid hpn
  clear cd
  go_wp2_with fail
  refine cd1.mono ?_
  rintro e w3 ⟨dg, rfl, hQg, g10⟩
  obtain ⟨gop, gid, ga, gb, gx0, gy0, gx1, gy1, gs, gd⟩ := g1'
  obtain ⟨Ag, cg, rfl, hAg⟩ := hQg.sv
  have hsg : Sv w3 (.slice Ag gd.length cg) gd := ⟨Ag, cg, rfl, hAg⟩
  unfold vQ at *
  dsimp only at *
  obtain ⟨gn, hgn⟩ : ∃ gn, gn = gd.length := ⟨_, rfl⟩
  rw [← hgn] at hsg ⊢
  replace hgn := Lib.hid hgn
  have hsv3 := (hsv9.out.bl ((Bl.refl w2).alloc (.cells #[.int .i64 N, .int .i64 id, .slice A9 pn c9] 24))).bl g10
  replace hsv3 := Lib.hid hsv3
  clear hQg hAg cd1 a0 a1 X03 X13 G3
  have G5 := (G4.trans g10).alloc (.cells #[.int .i64 gop, .int .i64 gid, .int .i64 ga, .int .i64 gb, .int .i64 gx0, .int .i64 gy0, .int .i64 gx1, .int .i64 gy1, .string gs, .slice Ag gn cg] 36)
  have X05 := (X04.bl g10).alloc (.cells #[.int .i64 gop, .int .i64 gid, .int .i64 ga, .int .i64 gb, .int .i64 gx0, .int .i64 gy0, .int .i64 gx1, .int .i64 gy1, .string gs, .slice Ag gn cg] 36)
  have X15 := (X14.bl g10).alloc (.cells #[.int .i64 gop, .int .i64 gid, .int .i64 ga, .int .i64 gb, .int .i64 gx0, .int .i64 gy0, .int .i64 gx1, .int .i64 gy1, .string gs, .slice Ag gn cg] 36)
  have X35 := (X34.bl g10).alloc (.cells #[.int .i64 gop, .int .i64 gid, .int .i64 ga, .int .i64 gb, .int .i64 gx0, .int .i64 gy0, .int .i64 gx1, .int .i64 gy1, .string gs, .slice Ag gn cg] 36)
  have hsg5 := hsg.bl ((Bl.refl w3).alloc (.cells #[.int .i64 gop, .int .i64 gid, .int .i64 ga, .int .i64 gb, .int .i64 gx0, .int .i64 gy0, .int .i64 gx1, .int .i64 gy1, .string gs, .slice Ag gn cg] 36))
  have hsv5 := hsv3.out.bl ((Bl.refl w3).alloc (.cells #[.int .i64 gop, .int .i64 gid, .int .i64 ga, .int .i64 gb, .int .i64 gx0, .int .i64 gy0, .int .i64 gx1, .int .i64 gy1, .string gs, .slice Ag gn cg] 36))
  replace hsg5 := Lib.hid hsg5
  replace hsv5 := Lib.hid hsv5
  clear X04 X14 X34 G4
  have cs1 := cs (w3.alloc (.cells #[.int .i64 gop, .int .i64 gid, .int .i64 ga, .int .i64 gb, .int .i64 gx0, .int .i64 gy0, .int .i64 gx1, .int .i64 gy1, .string gs, .slice Ag gn cg] 36)) (.slice Ag gn cg) G5 hsg5.out
  clear cs
  have qk0 : ((w3.alloc (.cells #[.int .i64 gop, .int .i64 gid, .int .i64 ga, .int .i64 gb, .int .i64 gx0, .int .i64 gy0, .int .i64 gx1, .int .i64 gy1, .string gs, .slice Ag gn cg] 36))).cell? ⟨w.heap.size, 0, none⟩ = some (.int .i64 N) := (X05.cell 0).trans rfl
  have qf0 : ((w3.alloc (.cells #[.int .i64 gop, .int .i64 gid, .int .i64 ga, .int .i64 gb, .int .i64 gx0, .int .i64 gy0, .int .i64 gx1, .int .i64 gy1, .string gs, .slice Ag gn cg] 36))).frozen? ⟨w.heap.size, 0, none⟩ = false := X05.free 0
  have qk1 : ((w3.alloc (.cells #[.int .i64 gop, .int .i64 gid, .int .i64 ga, .int .i64 gb, .int .i64 gx0, .int .i64 gy0, .int .i64 gx1, .int .i64 gy1, .string gs, .slice Ag gn cg] 36))).cell? ⟨w.heap.size, 1, none⟩ = some (.int .i64 id) := (X05.cell 1).trans rfl
  have qf1 : ((w3.alloc (.cells #[.int .i64 gop, .int .i64 gid, .int .i64 ga, .int .i64 gb, .int .i64 gx0, .int .i64 gy0, .int .i64 gx1, .int .i64 gy1, .string gs, .slice Ag gn cg] 36))).frozen? ⟨w.heap.size, 1, none⟩ = false := X05.free 1
  have qk2 : ((w3.alloc (.cells #[.int .i64 gop, .int .i64 gid, .int .i64 ga, .int .i64 gb, .int .i64 gx0, .int .i64 gy0, .int .i64 gx1, .int .i64 gy1, .string gs, .slice Ag gn cg] 36))).cell? ⟨w.heap.size, 2, none⟩ = some (.int .i64 a) := (X05.cell 2).trans rfl
  have qf2 : ((w3.alloc (.cells #[.int .i64 gop, .int .i64 gid, .int .i64 ga, .int .i64 gb, .int .i64 gx0, .int .i64 gy0, .int .i64 gx1, .int .i64 gy1, .string gs, .slice Ag gn cg] 36))).frozen? ⟨w.heap.size, 2, none⟩ = false := X05.free 2
  have qk3 : ((w3.alloc (.cells #[.int .i64 gop, .int .i64 gid, .int .i64 ga, .int .i64 gb, .int .i64 gx0, .int .i64 gy0, .int .i64 gx1, .int .i64 gy1, .string gs, .slice Ag gn cg] 36))).cell? ⟨w.heap.size, 3, none⟩ = some (.int .i64 b) := (X05.cell 3).trans rfl
  have qf3 : ((w3.alloc (.cells #[.int .i64 gop, .int .i64 gid, .int .i64 ga, .int .i64 gb, .int .i64 gx0, .int .i64 gy0, .int .i64 gx1, .int .i64 gy1, .string gs, .slice Ag gn cg] 36))).frozen? ⟨w.heap.size, 3, none⟩ = false := X05.free 3
  have qk4 : ((w3.alloc (.cells #[.int .i64 gop, .int .i64 gid, .int .i64 ga, .int .i64 gb, .int .i64 gx0, .int .i64 gy0, .int .i64 gx1, .int .i64 gy1, .string gs, .slice Ag gn cg] 36))).cell? ⟨w.heap.size, 4, none⟩ = some (.int .i64 x0) := (X05.cell 4).trans rfl
  have qf4 : ((w3.alloc (.cells #[.int .i64 gop, .int .i64 gid, .int .i64 ga, .int .i64 gb, .int .i64 gx0, .int .i64 gy0, .int .i64 gx1, .int .i64 gy1, .string gs, .slice Ag gn cg] 36))).frozen? ⟨w.heap.size, 4, none⟩ = false := X05.free 4
  have qk5 : ((w3.alloc (.cells #[.int .i64 gop, .int .i64 gid, .int .i64 ga, .int .i64 gb, .int .i64 gx0, .int .i64 gy0, .int .i64 gx1, .int .i64 gy1, .string gs, .slice Ag gn cg] 36))).cell? ⟨w.heap.size, 5, none⟩ = some (.int .i64 y0) := (X05.cell 5).trans rfl
  have qf5 : ((w3.alloc (.cells #[.int .i64 gop, .int .i64 gid, .int .i64 ga, .int .i64 gb, .int .i64 gx0, .int .i64 gy0, .int .i64 gx1, .int .i64 gy1, .string gs, .slice Ag gn cg] 36))).frozen? ⟨w.heap.size, 5, none⟩ = false := X05.free 5
  have qk6 : ((w3.alloc (.cells #[.int .i64 gop, .int .i64 gid, .int .i64 ga, .int .i64 gb, .int .i64 gx0, .int .i64 gy0, .int .i64 gx1, .int .i64 gy1, .string gs, .slice Ag gn cg] 36))).cell? ⟨w.heap.size, 6, none⟩ = some (.int .i64 x1) := (X05.cell 6).trans rfl
  have qf6 : ((w3.alloc (.cells #[.int .i64 gop, .int .i64 gid, .int .i64 ga, .int .i64 gb, .int .i64 gx0, .int .i64 gy0, .int .i64 gx1, .int .i64 gy1, .string gs, .slice Ag gn cg] 36))).frozen? ⟨w.heap.size, 6, none⟩ = false := X05.free 6
  have qk7 : ((w3.alloc (.cells #[.int .i64 gop, .int .i64 gid, .int .i64 ga, .int .i64 gb, .int .i64 gx0, .int .i64 gy0, .int .i64 gx1, .int .i64 gy1, .string gs, .slice Ag gn cg] 36))).cell? ⟨w.heap.size, 7, none⟩ = some (.int .i64 y1) := (X05.cell 7).trans rfl
  have qf7 : ((w3.alloc (.cells #[.int .i64 gop, .int .i64 gid, .int .i64 ga, .int .i64 gb, .int .i64 gx0, .int .i64 gy0, .int .i64 gx1, .int .i64 gy1, .string gs, .slice Ag gn cg] 36))).frozen? ⟨w.heap.size, 7, none⟩ = false := X05.free 7
  have qk8 : ((w3.alloc (.cells #[.int .i64 gop, .int .i64 gid, .int .i64 ga, .int .i64 gb, .int .i64 gx0, .int .i64 gy0, .int .i64 gx1, .int .i64 gy1, .string gs, .slice Ag gn cg] 36))).cell? ⟨w.heap.size, 8, none⟩ = some (.string s) := (X05.cell 8).trans rfl
  have qf8 : ((w3.alloc (.cells #[.int .i64 gop, .int .i64 gid, .int .i64 ga, .int .i64 gb, .int .i64 gx0, .int .i64 gy0, .int .i64 gx1, .int .i64 gy1, .string gs, .slice Ag gn cg] 36))).frozen? ⟨w.heap.size, 8, none⟩ = false := X05.free 8
  have qk9 : ((w3.alloc (.cells #[.int .i64 gop, .int .i64 gid, .int .i64 ga, .int .i64 gb, .int .i64 gx0, .int .i64 gy0, .int .i64 gx1, .int .i64 gy1, .string gs, .slice Ag gn cg] 36))).cell? ⟨w.heap.size, 9, none⟩ = some (.slice A n c) := (X05.cell 9).trans rfl
  have qf9 : ((w3.alloc (.cells #[.int .i64 gop, .int .i64 gid, .int .i64 ga, .int .i64 gb, .int .i64 gx0, .int .i64 gy0, .int .i64 gx1, .int .i64 gy1, .string gs, .slice Ag gn cg] 36))).frozen? ⟨w.heap.size, 9, none⟩ = false := X05.free 9
  go_wp2_with fail
  refine cs1.mono ?_
  rintro e w6 ⟨rfl, g6⟩
  have X16 := X15.gr g6
  have X36 := X35.gr g6
  have G6 := G5.gr g6
  have hsv6 := hsv5.out.bl g6.bl
  replace hsv6 := Lib.hid hsv6
  clear qk0 qf0 qk1 qf1 qk2 qf2 qk3 qf3 qk4 qf4 qk5 qf5 qk6 qf6 qk7 qf7 qk8 qf8 qk9 qf9 X15 X35 G5 cs1
  have k0 : (w6).cell? ⟨w.heap.size + 1, 0, none⟩ = some (.int .i64 0) := (X16.cell 0).trans rfl
  have f0 : (w6).frozen? ⟨w.heap.size + 1, 0, none⟩ = false := X16.free 0
  have k1 : (w6).cell? ⟨w.heap.size + 1, 1, none⟩ = some (.int .i64 0) := (X16.cell 1).trans rfl
  have f1 : (w6).frozen? ⟨w.heap.size + 1, 1, none⟩ = false := X16.free 1
  have k2 : (w6).cell? ⟨w.heap.size + 1, 2, none⟩ = some (.slice none 0 0) := (X16.cell 2).trans rfl
  have f2 : (w6).frozen? ⟨w.heap.size + 1, 2, none⟩ = false := X16.free 2
  go_wp2
  clear k0 f0 k1 f1 k2 f2
  have Y := put3_at X16 (.int .i64 0) (.int .i64 0) (.slice none 0 0)
  have GY := put3_bl (b := w.heap.size + 1) G6 (by omega) (.int .i64 0) (.int .i64 0) (.slice none 0 0)
  generalize (((w6.setCell ⟨w.heap.size + 1, 0, none⟩ (.int .i64 0)).setCell ⟨w.heap.size + 1, 1, none⟩ (.int .i64 0)).setCell ⟨w.heap.size + 1, 2, none⟩ (.slice none 0 0)) = VV at *
  have d0 : VV.cell? ⟨w.heap.size + 1, 0, none⟩ = some (.int .i64 0) := (Y.cell 0).trans rfl
  have d1 : VV.cell? ⟨w.heap.size + 1, 1, none⟩ = some (.int .i64 0) := (Y.cell 1).trans rfl
  have d2 : VV.cell? ⟨w.heap.size + 1, 2, none⟩ = some (.slice none 0 0) := (Y.cell 2).trans rfl
  exact bodyPost_ret (v := .tuple #[.agg #[.int .i64 0, .int .i64 0, .slice none 0 0], .int .i64 1]) (by simp [results, Tryd.results20, go_sem, d0, d1, d2]) rfl ⟨.slice none 0 0, rfl, Sv.nil _, GY⟩
set_option maxRecDepth 100000 in
set_option maxHeartbeats 2000000 in
theorem enc_ok (N n : Nat) (_hN : N < 19) (id a b x0 y0 x1 y1 : Int) (s : ByteArray) (A : Option Addr) (c : Nat) (w : World) (F M : ByteArray) (g : Nat) (l : List Av) (p : List Int × Int) (got : Rq × Int) (L : List Int) (sm : Bool)
    (_hN1 : L.length = n) (_hsv : Sv w (.slice A n c) L)
    (c1 : ∀ V, Calls Tryd.prog 48 #[.int .i64 N] V (Rt V (.tuple #[.agg #[.string M, .string F, .func (.func g) #[] #[]], .bool true])))
    (ca : ∀ V, Bl w V → Calls Tryd.prog 55 #[.string F, .agg #[.int .i64 N, .int .i64 id, .int .i64 a, .int .i64 b, .int .i64 x0, .int .i64 y0, .int .i64 x1, .int .i64 y1, .string s, .slice A n c]] V (fun e w' => ∃ A' c' xs, e = .returned (.slice A' (xs : List Value).length c') ∧ Yv w' A' xs ∧ AllA w' xs l ∧ Bl V w'))
    (cp : ∀ A' c' xs V, Yv V A' xs → AllA V xs l → Calls Tryd.prog 54 #[.string F, .slice A' xs.length c'] V (PackQ V p))
    (cd : ∀ A' c' V, Sv V (.slice A' p.1.length c') p.1 → Calls Tryd.prog 16 #[.agg #[.int .i64 N, .int .i64 id, .slice A' p.1.length c']] V (DecQ V (fun k => V.heap.size ≤ k) got))
    (cs : ∀ V d, Bl w V → Sv V d got.1.d → Calls Tryd.prog 23 #[vQ got.1 d, .agg #[.int .i64 N, .int .i64 id, .int .i64 a, .int .i64 b, .int .i64 x0, .int .i64 y0, .int .i64 x1, .int .i64 y1, .string s, .slice A n c]] V (Rt V (.bool sm))) (hE : p.2 = 0) (hf : got.2 = 0) (hs : sm = true) :
    Calls Tryd.prog 20 #[.agg #[.int .i64 N, .int .i64 id, .int .i64 a, .int .i64 b, .int .i64 x0, .int .i64 y0, .int .i64 x1, .int .i64 y1, .string s, .slice A n c]] w (EncQ w (⟨N, id, p.1⟩, 0)) := by
  obtain ⟨pl, pe⟩ := p
  obtain ⟨g1', ge⟩ := got
  dsimp only at hE hf
  subst hE hf hs
  go_enter Tryd.func20, Tryd.ntmps20
  go_wp2_with fail
  refine (c1 _).mono ?_
  rintro e w1 ⟨rfl, g1⟩
  have X0 := ((At.new w #[.int .i64 N, .int .i64 id, .int .i64 a, .int .i64 b, .int .i64 x0, .int .i64 y0, .int .i64 x1, .int .i64 y1, .string s, .slice A n c] 36).alloc (.cells #[.int .i64 0, .int .i64 0, .slice none 0 0] 24)).gr g1
  have X1 := (At.newAt (w := w.alloc (.cells #[.int .i64 N, .int .i64 id, .int .i64 a, .int .i64 b, .int .i64 x0, .int .i64 y0, .int .i64 x1, .int .i64 y1, .string s, .slice A n c] 36)) (n := w.heap.size + 1) (by simp) #[.int .i64 0, .int .i64 0, .slice none 0 0] 24).gr g1
  have G1 : Bl w w1 := (((Bl.refl w).alloc _).alloc _).gr g1
  have X02 := X0.alloc (.cells #[.string M, .string F, .func (.func g) #[] #[]] 97)
  have X12 := X1.alloc (.cells #[.string M, .string F, .func (.func g) #[] #[]] 97)
  have X22 := At.new w1 #[.string M, .string F, .func (.func g) #[] #[]] 97
  have G2 := G1.alloc (.cells #[.string M, .string F, .func (.func g) #[] #[]] 97)
  go_wp2
  generalize (w1.alloc (.cells #[.string M, .string F, .func (.func g) #[] #[]] 97)) = w0 at *
  have SK : ∀ V, Bl w0 V → V.cell? ⟨w1.heap.size, 1, none⟩ = some (.string F) ∧ V.cell? ⟨w.heap.size, 0, none⟩ = some (.int .i64 N) ∧ V.cell? ⟨w.heap.size, 1, none⟩ = some (.int .i64 id) ∧ V.cell? ⟨w.heap.size, 2, none⟩ = some (.int .i64 a) ∧ V.cell? ⟨w.heap.size, 3, none⟩ = some (.int .i64 b) ∧ V.cell? ⟨w.heap.size, 4, none⟩ = some (.int .i64 x0) ∧ V.cell? ⟨w.heap.size, 5, none⟩ = some (.int .i64 y0) ∧ V.cell? ⟨w.heap.size, 6, none⟩ = some (.int .i64 x1) ∧ V.cell? ⟨w.heap.size, 7, none⟩ = some (.int .i64 y1) ∧ V.cell? ⟨w.heap.size, 8, none⟩ = some (.string s) ∧ V.cell? ⟨w.heap.size, 9, none⟩ = some (.slice A n c) ∧ Bl w0 V := fun V g => ⟨((X22.bl g).cell 1).trans rfl, ((X02.bl g).cell 0).trans rfl, ((X02.bl g).cell 1).trans rfl, ((X02.bl g).cell 2).trans rfl, ((X02.bl g).cell 3).trans rfl, ((X02.bl g).cell 4).trans rfl, ((X02.bl g).cell 5).trans rfl, ((X02.bl g).cell 6).trans rfl, ((X02.bl g).cell 7).trans rfl, ((X02.bl g).cell 8).trans rfl, ((X02.bl g).cell 9).trans rfl, g⟩
  replace SK := Lib.hid SK
  go_region_held3 (fun V => V.cell? ⟨w1.heap.size, 1, none⟩ = some (.string F) ∧ V.cell? ⟨w.heap.size, 0, none⟩ = some (.int .i64 N) ∧ V.cell? ⟨w.heap.size, 1, none⟩ = some (.int .i64 id) ∧ V.cell? ⟨w.heap.size, 2, none⟩ = some (.int .i64 a) ∧ V.cell? ⟨w.heap.size, 3, none⟩ = some (.int .i64 b) ∧ V.cell? ⟨w.heap.size, 4, none⟩ = some (.int .i64 x0) ∧ V.cell? ⟨w.heap.size, 5, none⟩ = some (.int .i64 y0) ∧ V.cell? ⟨w.heap.size, 6, none⟩ = some (.int .i64 x1) ∧ V.cell? ⟨w.heap.size, 7, none⟩ = some (.int .i64 y1) ∧ V.cell? ⟨w.heap.size, 8, none⟩ = some (.string s) ∧ V.cell? ⟨w.heap.size, 9, none⟩ = some (.slice A n c) ∧ Bl w0 V) ((refine SK.out _ ?_; repeat (first | with_reducible assumption | with_reducible exact Bl.refl _ | with_reducible exact (And.right (And.right (And.right (And.right (And.right (And.right (And.right (And.right (And.right (And.right (And.right (by assumption)))))))))))) | with_reducible exact Bl.trans (And.right (And.right (And.right (And.right (And.right (And.right (And.right (And.right (And.right (And.right (And.right (by assumption)))))))))))) (by assumption) | with_reducible apply Bl.drew))) ((first | (go_at_call 55; (refine (ca _ (G2.trans (And.right (And.right (And.right (And.right (And.right (And.right (And.right (And.right (And.right (And.right (And.right (by assumption)))))))))))))).mono ?_); rintro e V8 ⟨A8, c8, xs, rfl, hY8, hall8, g8⟩; have G8 : Bl w0 V8 := Bl.trans (And.right (And.right (And.right (And.right (And.right (And.right (And.right (And.right (And.right (And.right (And.right (by assumption)))))))))))) g8) | (go_at_call 54; (refine (cp _ _ _ _ (by first | exact hY8 | exact hY8.bl (Bl.refl _).drew) (by first | exact hall8 | exact hall8.bl (Bl.refl _).drew)).mono ?_); rintro e w2 ⟨A9, c9, rfl, hsv9, g9⟩; have G9 : Bl w0 w2 := Bl.trans (And.right (And.right (And.right (And.right (And.right (And.right (And.right (And.right (And.right (And.right (And.right (by assumption)))))))))))) g9)))
  have G3 : Bl w w2 := G2.trans G9
  have X03 := X02.bl G9
  have X13 := X12.bl G9
  clear SK X0 X1 X02 X12 X22
  have L0 := X03.lt
  have L1 := X13.lt
  have a0 : w2.cell? ⟨w.heap.size, 0, none⟩ = some (.int .i64 N) := (X03.cell 0).trans rfl
  have a1 : w2.cell? ⟨w.heap.size, 1, none⟩ = some (.int .i64 id) := (X03.cell 1).trans rfl
  obtain ⟨pn, hpn⟩ : ∃ pn, pn = pl.length := ⟨_, rfl⟩
  have hfar := far_msg X13 hsv9
  rw [← hpn] at hfar
  replace hfar := Lib.hid hfar
  have cd1 := cd A9 c9 (w2.alloc (.cells #[.int .i64 N, .int .i64 id, .slice A9 pl.length c9] 24)) (hsv9.bl ((Bl.refl w2).alloc _))
  rw [← hpn] at cd1 hsv9 ⊢
  have X04 := X03.alloc (.cells #[.int .i64 N, .int .i64 id, .slice A9 pn c9] 24)
  have X14 := X13.alloc (.cells #[.int .i64 N, .int .i64 id, .slice A9 pn c9] 24)
  have X34 := At.new w2 #[.int .i64 N, .int .i64 id, .slice A9 pn c9] 24
  have G4 := G3.alloc (.cells #[.int .i64 N, .int .i64 id, .slice A9 pn c9] 24)
  replace hsv9 := Lib.hid hsv9
  replace hpn := Lib.hid hpn
  clear cd
  go_wp2_with fail
  refine cd1.mono ?_
  rintro e w3 ⟨dg, rfl, hQg, g10⟩
  obtain ⟨gop, gid, ga, gb, gx0, gy0, gx1, gy1, gs, gd⟩ := g1'
  obtain ⟨Ag, cg, rfl, hAg⟩ := hQg.sv
  have hsg : Sv w3 (.slice Ag gd.length cg) gd := ⟨Ag, cg, rfl, hAg⟩
  unfold vQ at *
  dsimp only at *
  obtain ⟨gn, hgn⟩ : ∃ gn, gn = gd.length := ⟨_, rfl⟩
  rw [← hgn] at hsg ⊢
  replace hgn := Lib.hid hgn
  have hsv3 := (hsv9.out.bl ((Bl.refl w2).alloc (.cells #[.int .i64 N, .int .i64 id, .slice A9 pn c9] 24))).bl g10
  replace hsv3 := Lib.hid hsv3
  clear hQg hAg cd1 a0 a1 X03 X13 G3
  have G5 := (G4.trans g10).alloc (.cells #[.int .i64 gop, .int .i64 gid, .int .i64 ga, .int .i64 gb, .int .i64 gx0, .int .i64 gy0, .int .i64 gx1, .int .i64 gy1, .string gs, .slice Ag gn cg] 36)
  have X05 := (X04.bl g10).alloc (.cells #[.int .i64 gop, .int .i64 gid, .int .i64 ga, .int .i64 gb, .int .i64 gx0, .int .i64 gy0, .int .i64 gx1, .int .i64 gy1, .string gs, .slice Ag gn cg] 36)
  have X15 := (X14.bl g10).alloc (.cells #[.int .i64 gop, .int .i64 gid, .int .i64 ga, .int .i64 gb, .int .i64 gx0, .int .i64 gy0, .int .i64 gx1, .int .i64 gy1, .string gs, .slice Ag gn cg] 36)
  have X35 := (X34.bl g10).alloc (.cells #[.int .i64 gop, .int .i64 gid, .int .i64 ga, .int .i64 gb, .int .i64 gx0, .int .i64 gy0, .int .i64 gx1, .int .i64 gy1, .string gs, .slice Ag gn cg] 36)
  have hsg5 := hsg.bl ((Bl.refl w3).alloc (.cells #[.int .i64 gop, .int .i64 gid, .int .i64 ga, .int .i64 gb, .int .i64 gx0, .int .i64 gy0, .int .i64 gx1, .int .i64 gy1, .string gs, .slice Ag gn cg] 36))
  have hsv5 := hsv3.out.bl ((Bl.refl w3).alloc (.cells #[.int .i64 gop, .int .i64 gid, .int .i64 ga, .int .i64 gb, .int .i64 gx0, .int .i64 gy0, .int .i64 gx1, .int .i64 gy1, .string gs, .slice Ag gn cg] 36))
  replace hsg5 := Lib.hid hsg5
  replace hsv5 := Lib.hid hsv5
  clear X04 X14 X34 G4
  have cs1 := cs (w3.alloc (.cells #[.int .i64 gop, .int .i64 gid, .int .i64 ga, .int .i64 gb, .int .i64 gx0, .int .i64 gy0, .int .i64 gx1, .int .i64 gy1, .string gs, .slice Ag gn cg] 36)) (.slice Ag gn cg) G5 hsg5.out
  clear cs
  have qk0 : ((w3.alloc (.cells #[.int .i64 gop, .int .i64 gid, .int .i64 ga, .int .i64 gb, .int .i64 gx0, .int .i64 gy0, .int .i64 gx1, .int .i64 gy1, .string gs, .slice Ag gn cg] 36))).cell? ⟨w.heap.size, 0, none⟩ = some (.int .i64 N) := (X05.cell 0).trans rfl
  have qf0 : ((w3.alloc (.cells #[.int .i64 gop, .int .i64 gid, .int .i64 ga, .int .i64 gb, .int .i64 gx0, .int .i64 gy0, .int .i64 gx1, .int .i64 gy1, .string gs, .slice Ag gn cg] 36))).frozen? ⟨w.heap.size, 0, none⟩ = false := X05.free 0
  have qk1 : ((w3.alloc (.cells #[.int .i64 gop, .int .i64 gid, .int .i64 ga, .int .i64 gb, .int .i64 gx0, .int .i64 gy0, .int .i64 gx1, .int .i64 gy1, .string gs, .slice Ag gn cg] 36))).cell? ⟨w.heap.size, 1, none⟩ = some (.int .i64 id) := (X05.cell 1).trans rfl
  have qf1 : ((w3.alloc (.cells #[.int .i64 gop, .int .i64 gid, .int .i64 ga, .int .i64 gb, .int .i64 gx0, .int .i64 gy0, .int .i64 gx1, .int .i64 gy1, .string gs, .slice Ag gn cg] 36))).frozen? ⟨w.heap.size, 1, none⟩ = false := X05.free 1
  have qk2 : ((w3.alloc (.cells #[.int .i64 gop, .int .i64 gid, .int .i64 ga, .int .i64 gb, .int .i64 gx0, .int .i64 gy0, .int .i64 gx1, .int .i64 gy1, .string gs, .slice Ag gn cg] 36))).cell? ⟨w.heap.size, 2, none⟩ = some (.int .i64 a) := (X05.cell 2).trans rfl
  have qf2 : ((w3.alloc (.cells #[.int .i64 gop, .int .i64 gid, .int .i64 ga, .int .i64 gb, .int .i64 gx0, .int .i64 gy0, .int .i64 gx1, .int .i64 gy1, .string gs, .slice Ag gn cg] 36))).frozen? ⟨w.heap.size, 2, none⟩ = false := X05.free 2
  have qk3 : ((w3.alloc (.cells #[.int .i64 gop, .int .i64 gid, .int .i64 ga, .int .i64 gb, .int .i64 gx0, .int .i64 gy0, .int .i64 gx1, .int .i64 gy1, .string gs, .slice Ag gn cg] 36))).cell? ⟨w.heap.size, 3, none⟩ = some (.int .i64 b) := (X05.cell 3).trans rfl
  have qf3 : ((w3.alloc (.cells #[.int .i64 gop, .int .i64 gid, .int .i64 ga, .int .i64 gb, .int .i64 gx0, .int .i64 gy0, .int .i64 gx1, .int .i64 gy1, .string gs, .slice Ag gn cg] 36))).frozen? ⟨w.heap.size, 3, none⟩ = false := X05.free 3
  have qk4 : ((w3.alloc (.cells #[.int .i64 gop, .int .i64 gid, .int .i64 ga, .int .i64 gb, .int .i64 gx0, .int .i64 gy0, .int .i64 gx1, .int .i64 gy1, .string gs, .slice Ag gn cg] 36))).cell? ⟨w.heap.size, 4, none⟩ = some (.int .i64 x0) := (X05.cell 4).trans rfl
  have qf4 : ((w3.alloc (.cells #[.int .i64 gop, .int .i64 gid, .int .i64 ga, .int .i64 gb, .int .i64 gx0, .int .i64 gy0, .int .i64 gx1, .int .i64 gy1, .string gs, .slice Ag gn cg] 36))).frozen? ⟨w.heap.size, 4, none⟩ = false := X05.free 4
  have qk5 : ((w3.alloc (.cells #[.int .i64 gop, .int .i64 gid, .int .i64 ga, .int .i64 gb, .int .i64 gx0, .int .i64 gy0, .int .i64 gx1, .int .i64 gy1, .string gs, .slice Ag gn cg] 36))).cell? ⟨w.heap.size, 5, none⟩ = some (.int .i64 y0) := (X05.cell 5).trans rfl
  have qf5 : ((w3.alloc (.cells #[.int .i64 gop, .int .i64 gid, .int .i64 ga, .int .i64 gb, .int .i64 gx0, .int .i64 gy0, .int .i64 gx1, .int .i64 gy1, .string gs, .slice Ag gn cg] 36))).frozen? ⟨w.heap.size, 5, none⟩ = false := X05.free 5
  have qk6 : ((w3.alloc (.cells #[.int .i64 gop, .int .i64 gid, .int .i64 ga, .int .i64 gb, .int .i64 gx0, .int .i64 gy0, .int .i64 gx1, .int .i64 gy1, .string gs, .slice Ag gn cg] 36))).cell? ⟨w.heap.size, 6, none⟩ = some (.int .i64 x1) := (X05.cell 6).trans rfl
  have qf6 : ((w3.alloc (.cells #[.int .i64 gop, .int .i64 gid, .int .i64 ga, .int .i64 gb, .int .i64 gx0, .int .i64 gy0, .int .i64 gx1, .int .i64 gy1, .string gs, .slice Ag gn cg] 36))).frozen? ⟨w.heap.size, 6, none⟩ = false := X05.free 6
  have qk7 : ((w3.alloc (.cells #[.int .i64 gop, .int .i64 gid, .int .i64 ga, .int .i64 gb, .int .i64 gx0, .int .i64 gy0, .int .i64 gx1, .int .i64 gy1, .string gs, .slice Ag gn cg] 36))).cell? ⟨w.heap.size, 7, none⟩ = some (.int .i64 y1) := (X05.cell 7).trans rfl
  have qf7 : ((w3.alloc (.cells #[.int .i64 gop, .int .i64 gid, .int .i64 ga, .int .i64 gb, .int .i64 gx0, .int .i64 gy0, .int .i64 gx1, .int .i64 gy1, .string gs, .slice Ag gn cg] 36))).frozen? ⟨w.heap.size, 7, none⟩ = false := X05.free 7
  have qk8 : ((w3.alloc (.cells #[.int .i64 gop, .int .i64 gid, .int .i64 ga, .int .i64 gb, .int .i64 gx0, .int .i64 gy0, .int .i64 gx1, .int .i64 gy1, .string gs, .slice Ag gn cg] 36))).cell? ⟨w.heap.size, 8, none⟩ = some (.string s) := (X05.cell 8).trans rfl
  have qf8 : ((w3.alloc (.cells #[.int .i64 gop, .int .i64 gid, .int .i64 ga, .int .i64 gb, .int .i64 gx0, .int .i64 gy0, .int .i64 gx1, .int .i64 gy1, .string gs, .slice Ag gn cg] 36))).frozen? ⟨w.heap.size, 8, none⟩ = false := X05.free 8
  have qk9 : ((w3.alloc (.cells #[.int .i64 gop, .int .i64 gid, .int .i64 ga, .int .i64 gb, .int .i64 gx0, .int .i64 gy0, .int .i64 gx1, .int .i64 gy1, .string gs, .slice Ag gn cg] 36))).cell? ⟨w.heap.size, 9, none⟩ = some (.slice A n c) := (X05.cell 9).trans rfl
  have qf9 : ((w3.alloc (.cells #[.int .i64 gop, .int .i64 gid, .int .i64 ga, .int .i64 gb, .int .i64 gx0, .int .i64 gy0, .int .i64 gx1, .int .i64 gy1, .string gs, .slice Ag gn cg] 36))).frozen? ⟨w.heap.size, 9, none⟩ = false := X05.free 9
  go_wp2_with fail
  refine cs1.mono ?_
  rintro e w6 ⟨rfl, g6⟩
  have X16 := X15.gr g6
  have X36 := X35.gr g6
  have G6 := G5.gr g6
  have hsv6 := hsv5.out.bl g6.bl
  replace hsv6 := Lib.hid hsv6
  clear qk0 qf0 qk1 qf1 qk2 qf2 qk3 qf3 qk4 qf4 qk5 qf5 qk6 qf6 qk7 qf7 qk8 qf8 qk9 qf9 X15 X35 G5 cs1
  have k0 : (w6).cell? ⟨w.heap.size + 1, 0, none⟩ = some (.int .i64 0) := (X16.cell 0).trans rfl
  have f0 : (w6).frozen? ⟨w.heap.size + 1, 0, none⟩ = false := X16.free 0
  have k1 : (w6).cell? ⟨w.heap.size + 1, 1, none⟩ = some (.int .i64 0) := (X16.cell 1).trans rfl
  have f1 : (w6).frozen? ⟨w.heap.size + 1, 1, none⟩ = false := X16.free 1
  have k2 : (w6).cell? ⟨w.heap.size + 1, 2, none⟩ = some (.slice none 0 0) := (X16.cell 2).trans rfl
  have f2 : (w6).frozen? ⟨w.heap.size + 1, 2, none⟩ = false := X16.free 2
  have mk0 : (w6).cell? ⟨w2.heap.size, 0, none⟩ = some (.int .i64 N) := (X36.cell 0).trans rfl
  have mf0 : (w6).frozen? ⟨w2.heap.size, 0, none⟩ = false := X36.free 0
  have mk1 : (w6).cell? ⟨w2.heap.size, 1, none⟩ = some (.int .i64 id) := (X36.cell 1).trans rfl
  have mf1 : (w6).frozen? ⟨w2.heap.size, 1, none⟩ = false := X36.free 1
  have mk2 : (w6).cell? ⟨w2.heap.size, 2, none⟩ = some (.slice A9 pn c9) := (X36.cell 2).trans rfl
  have mf2 : (w6).frozen? ⟨w2.heap.size, 2, none⟩ = false := X36.free 2
  have hL2 := G6.size
  go_wp2
  clear k0 f0 k1 f1 k2 f2 mk0 mf0 mk1 mf1 mk2 mf2
  have hBy := put3_by (b := w.heap.size + 1) (By.refl w6 _) (.int .i64 N) (.int .i64 id) (.slice A9 pn c9)
  have hv7 := hsv6.out.by hBy hfar.out
  have Y := put3_at X16 (.int .i64 N) (.int .i64 id) (.slice A9 pn c9)
  have GY := put3_bl (b := w.heap.size + 1) G6 (by omega) (.int .i64 N) (.int .i64 id) (.slice A9 pn c9)
  generalize (((w6.setCell ⟨w.heap.size + 1, 0, none⟩ (.int .i64 N)).setCell ⟨w.heap.size + 1, 1, none⟩ (.int .i64 id)).setCell ⟨w.heap.size + 1, 2, none⟩ (.slice A9 pn c9)) = VV at *
  have d0 : VV.cell? ⟨w.heap.size + 1, 0, none⟩ = some (.int .i64 N) := (Y.cell 0).trans rfl
  have d1 : VV.cell? ⟨w.heap.size + 1, 1, none⟩ = some (.int .i64 id) := (Y.cell 1).trans rfl
  have d2 : VV.cell? ⟨w.heap.size + 1, 2, none⟩ = some (.slice A9 pn c9) := (Y.cell 2).trans rfl
  exact bodyPost_ret (v := .tuple #[.agg #[.int .i64 N, .int .i64 id, .slice A9 pn c9], .int .i64 0]) (by simp [results, Tryd.results20, go_sem, d0, d1, d2]) rfl ⟨.slice A9 pn c9, rfl, hv7, GY⟩

end Go.Proofs.YthkbenhlhldglaaDoor
