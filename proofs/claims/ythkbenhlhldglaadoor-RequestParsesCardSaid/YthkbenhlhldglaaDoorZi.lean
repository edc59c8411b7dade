/-
  What is proved: what Decode of package request hands back of any message. No conditions but bounds.
-/
import Derived.Test.YthkbenhlhldglaaDoorZh
import Derived.Test.YthkbenhlhldglaaDoorMe
import Derived.Test.YthkbenhlhldglaaDoorUk
namespace Go.Proofs.YthkbenhlhldglaaDoor
open Go.RowKit Go.Sort
attribute [local go_sem] run_store_nf run_store_fn

/-- A request that was read. -/
def DecQ (w : World) (D : Nat → Prop) (p : Rq × Int) (e : Ending) (w' : World) : Prop := ∃ d, e = .returned (.tuple #[vQ p.1 d, .int .i64 p.2]) ∧ IsQ w' D p.1 d ∧ Bl w w'
theorem IsQ.zero (w : World) (D : Nat → Prop) : IsQ w D zQ (.slice none 0 0) := ⟨Sv.nil _, .inl rfl⟩
theorem IsQ.bare (w : World) (D : Nat → Prop) (op id : Int) : IsQ w D (oQ op id) (.slice none 0 0) := ⟨Sv.nil _, .inl rfl⟩
theorem Yv.by {w w' : World} {A : Option Addr} {xs : List Value} (h : Yv w A xs) {row : Option Nat} (g : w.grownBy w' row) (hf : xs = [] ∨ A.map (·.block) ≠ row) : Yv w' A xs := by
  rcases h with h | ⟨b, off, h1, h2⟩
  · exact .inl h
  · rcases hf with hf | hf
    · exact .inl hf
    · refine .inr ⟨b, off, h1, fun k u hk => ?_⟩
      have hc := h2 k u hk
      have hlt := World.block_lt_of_cell? _ _ hc
      have hb := g.block b hlt (by rw [h1] at hf; exact hf)
      unfold World.cell? at hc ⊢
      rw [hb]; exact hc
theorem may_any (r : Rq) (A : Option Addr) (n c : Nat) (hs : r.s.size ≤ 1000000) (w : World) : ∀ k : Nat, k < 19 → r.op = k → Calls Tryd.prog (mayF k) #[vQ r (.slice A n c)] w (Bt w (.bool (argB r))) := by
  obtain ⟨op, id, a, b, x0, y0, x1, y1, s, L⟩ := r
  dsimp only at *
  intro k hk he
  subst he
  match k, hk with
  | 0, _ => exact (maySides1 0 id a b x0 y0 x1 y1 s A n c w).mono fun _ _ h => h.bt
  | 1, _ => exact (mayAll1 1 id a b x0 y0 x1 y1 s A n c w).mono fun _ _ h => h.bt
  | 2, _ => exact (mayPart1 2 id a b x0 y0 x1 y1 s A n c w).mono fun _ _ h => h.bt
  | 3, _ => exact (mayAll1 3 id a b x0 y0 x1 y1 s A n c w).mono fun _ _ h => h.bt
  | 4, _ => exact (mayAll1 4 id a b x0 y0 x1 y1 s A n c w).mono fun _ _ h => h.bt
  | 5, _ => exact (mayAll1 5 id a b x0 y0 x1 y1 s A n c w).mono fun _ _ h => h.bt
  | 6, _ => exact (mayRect1 6 id a b x0 y0 x1 y1 s A n c w).mono fun _ _ h => h.bt
  | 7, _ => exact (mayPlace1 7 id a b x0 y0 x1 y1 s A n c w).mono fun _ _ h => h.bt
  | 8, _ => exact (mayAll1 8 id a b x0 y0 x1 y1 s A n c w).mono fun _ _ h => h.bt
  | 9, _ => exact (mayAll1 9 id a b x0 y0 x1 y1 s A n c w).mono fun _ _ h => h.bt
  | 10, _ => exact (mayScale1 10 id a b x0 y0 x1 y1 s A n c w).mono fun _ _ h => h.bt
  | 11, _ => exact (mayRect1 11 id a b x0 y0 x1 y1 s A n c w).mono fun _ _ h => h.bt
  | 12, _ => exact (mayRect1 12 id a b x0 y0 x1 y1 s A n c w).mono fun _ _ h => h.bt
  | 13, _ => exact (mayFade1 13 id a b x0 y0 x1 y1 s A n c w).mono fun _ _ h => h.bt
  | 14, _ => exact mayTitle1 14 id a b x0 y0 x1 y1 s A n c hs w
  | 15, _ => exact (mayAll1 15 id a b x0 y0 x1 y1 s A n c w).mono fun _ _ h => h.bt
  | 16, _ => exact (mayAll1 16 id a b x0 y0 x1 y1 s A n c w).mono fun _ _ h => h.bt
  | 17, _ => exact (mayPlace1 17 id a b x0 y0 x1 y1 s A n c w).mono fun _ _ h => h.bt
  | 18, _ => exact (mayPlace1 18 id a b x0 y0 x1 y1 s A n c w).mono fun _ _ h => h.bt
  | k + 19, h => exact absurd h (by omega)
theorem call_may (args : Array Value) (w : World) : ∀ k : Nat, k < 19 → (callFunc (mayF k) args).run Tryd.prog w = .ok (.enter (mayF k) args) w
  | 0, _ => by kernel_rfl
  | 1, _ => by kernel_rfl
  | 2, _ => by kernel_rfl
  | 3, _ => by kernel_rfl
  | 4, _ => by kernel_rfl
  | 5, _ => by kernel_rfl
  | 6, _ => by kernel_rfl
  | 7, _ => by kernel_rfl
  | 8, _ => by kernel_rfl
  | 9, _ => by kernel_rfl
  | 10, _ => by kernel_rfl
  | 11, _ => by kernel_rfl
  | 12, _ => by kernel_rfl
  | 13, _ => by kernel_rfl
  | 14, _ => by kernel_rfl
  | 15, _ => by kernel_rfl
  | 16, _ => by kernel_rfl
  | 17, _ => by kernel_rfl
  | 18, _ => by kernel_rfl
  | k + 19, h => absurd h (by omega)
theorem put10_at {w : World} {b : Nat} {z0 z1 z2 z3 z4 z5 z6 z7 z8 z9 : Value} {t : TypeId} (h : At w b #[z0, z1, z2, z3, z4, z5, z6, z7, z8, z9] t) (u0 u1 u2 u3 u4 u5 u6 u7 u8 u9 : Value) : At ((((((((((w.setCell ⟨b, 0, none⟩ (u0)).setCell ⟨b, 1, none⟩ (u1)).setCell ⟨b, 2, none⟩ (u2)).setCell ⟨b, 3, none⟩ (u3)).setCell ⟨b, 4, none⟩ (u4)).setCell ⟨b, 5, none⟩ (u5)).setCell ⟨b, 6, none⟩ (u6)).setCell ⟨b, 7, none⟩ (u7)).setCell ⟨b, 8, none⟩ (u8)).setCell ⟨b, 9, none⟩ (u9)) b #[u0, u1, u2, u3, u4, u5, u6, u7, u8, u9] t := by
  have := ((((((((((h.put 0 u0).put 1 u1).put 2 u2).put 3 u3).put 4 u4).put 5 u5).put 6 u6).put 7 u7).put 8 u8).put 9 u9)
  unfold At at *
  simpa using this
theorem put10_bl {a w : World} {b : Nat} (h : Bl a w) (hb : a.heap.size ≤ b) (u0 u1 u2 u3 u4 u5 u6 u7 u8 u9 : Value) : Bl a ((((((((((w.setCell ⟨b, 0, none⟩ (u0)).setCell ⟨b, 1, none⟩ (u1)).setCell ⟨b, 2, none⟩ (u2)).setCell ⟨b, 3, none⟩ (u3)).setCell ⟨b, 4, none⟩ (u4)).setCell ⟨b, 5, none⟩ (u5)).setCell ⟨b, 6, none⟩ (u6)).setCell ⟨b, 7, none⟩ (u7)).setCell ⟨b, 8, none⟩ (u8)).setCell ⟨b, 9, none⟩ (u9)) :=
  ((((((((((h.setCell (p := ⟨b, 0, none⟩) hb u0).setCell (p := ⟨b, 1, none⟩) hb u1).setCell (p := ⟨b, 2, none⟩) hb u2).setCell (p := ⟨b, 3, none⟩) hb u3).setCell (p := ⟨b, 4, none⟩) hb u4).setCell (p := ⟨b, 5, none⟩) hb u5).setCell (p := ⟨b, 6, none⟩) hb u6).setCell (p := ⟨b, 7, none⟩) hb u7).setCell (p := ⟨b, 8, none⟩) hb u8).setCell (p := ⟨b, 9, none⟩) hb u9)
theorem put10_by {a w : World} {b : Nat} (h : a.grownBy w (some b)) (u0 u1 u2 u3 u4 u5 u6 u7 u8 u9 : Value) : a.grownBy ((((((((((w.setCell ⟨b, 0, none⟩ (u0)).setCell ⟨b, 1, none⟩ (u1)).setCell ⟨b, 2, none⟩ (u2)).setCell ⟨b, 3, none⟩ (u3)).setCell ⟨b, 4, none⟩ (u4)).setCell ⟨b, 5, none⟩ (u5)).setCell ⟨b, 6, none⟩ (u6)).setCell ⟨b, 7, none⟩ (u7)).setCell ⟨b, 8, none⟩ (u8)).setCell ⟨b, 9, none⟩ (u9)) (some b) :=
  By.set (p := ⟨b, 9, none⟩) (By.set (p := ⟨b, 8, none⟩) (By.set (p := ⟨b, 7, none⟩) (By.set (p := ⟨b, 6, none⟩) (By.set (p := ⟨b, 5, none⟩) (By.set (p := ⟨b, 4, none⟩) (By.set (p := ⟨b, 3, none⟩) (By.set (p := ⟨b, 2, none⟩) (By.set (p := ⟨b, 1, none⟩) (By.set (p := ⟨b, 0, none⟩) (h) u0) u1) u2) u3) u4) u5) u6) u7) u8) u9
theorem IsQ.by {w w' : World} {D : Nat → Prop} {r : Rq} {d : Value} {b : Nat} (h : IsQ w D r d) (g : w.grownBy w' (some b)) (hb : ∀ k, D k → k ≠ b) : IsQ w' D r d := by
  refine ⟨h.sv.by g ?_, h.dd⟩
  rcases h.dd with h0 | hd
  · exact .inl h0
  · cases ho : d.ownBlock with
    | none => exact .inr (.inl ho)
    | some k => exact .inr (.inr fun e => hb k (hd k ho) (by rw [ho] at e; exact Option.some.inj e))
theorem Yv.far {w : World} {A : Option Addr} {xs : List Value} (h : Yv w A xs) : xs = [] ∨ A.map (·.block) ≠ some w.heap.size := by
  rcases h with h | ⟨b, off, rfl, hr⟩
  · exact .inl h
  · cases xs with
    | nil => exact .inl rfl
    | cons u xs =>
      right
      have hlt := World.block_lt_of_cell? _ _ (hr 0 u rfl)
      intro e
      have e' : b = w.heap.size := by simpa using e
      rw [e'] at hlt
      exact Nat.lt_irrefl _ hlt
theorem IsQ.weak {w : World} {D D' : Nat → Prop} {r : Rq} {d : Value} (h : IsQ w D r d) (hd : ∀ k, D k → D' k) : IsQ w D' r d := ⟨h.sv, h.dd.imp id fun h' k hk => hd k (h' k hk)⟩
set_option maxRecDepth 100000 in
set_option maxHeartbeats 2000000 in
theorem dec0 (m : Ms) (A : Option Addr) (c : Nat) (w : World) (ho : ¬ (0 ≤ m.op ∧ m.op ≤ 18)) :
    Calls Tryd.prog 16 #[.agg #[.int .i64 m.op, .int .i64 m.id, .slice A m.body.length c]] w (DecQ w (fun k => w.heap.size ≤ k) (decR m)) := by
  obtain ⟨op, id, L⟩ := m
  dsimp only at *
  have e : decR ⟨op, id, L⟩ = (zQ, 12) := by unfold decR; rw [if_neg ho]
  rw [e]
  have c1 := fun V => find0 op ho V
  generalize L.length = n at *
  go_enter Tryd.func16, Tryd.ntmps16
  go_wp2_with fail
  refine (c1 _).mono ?_
  rintro e w1 ⟨rfl, g1⟩
  have X0 := ((At.new w #[.int .i64 op, .int .i64 id, .slice A n c] 24).alloc (.cells #[.int .i64 0, .int .i64 0, .int .i64 0, .int .i64 0, .int .i64 0, .int .i64 0, .int .i64 0, .int .i64 0, .string ⟨#[]⟩, .slice none 0 0] 36)).gr g1
  have X1 := (At.newAt (w := w.alloc (.cells #[.int .i64 op, .int .i64 id, .slice A n c] 24)) (n := w.heap.size + 1) (by simp) #[.int .i64 0, .int .i64 0, .int .i64 0, .int .i64 0, .int .i64 0, .int .i64 0, .int .i64 0, .int .i64 0, .string ⟨#[]⟩, .slice none 0 0] 36).gr g1
  have G1 : Bl w w1 := (((Bl.refl w).alloc _).alloc _).gr g1
  have X2 := X1.alloc (.cells #[.string ⟨#[]⟩, .string ⟨#[]⟩, .nilFunc] 97)
  have G2 := G1.alloc (.cells #[.string ⟨#[]⟩, .string ⟨#[]⟩, .nilFunc] 97)
  have k0 : (w1.alloc (.cells #[.string ⟨#[]⟩, .string ⟨#[]⟩, .nilFunc] 97)).cell? ⟨w.heap.size + 1, 0, none⟩ = some (.int .i64 0) := (X2.cell 0).trans rfl
  have f0 : (w1.alloc (.cells #[.string ⟨#[]⟩, .string ⟨#[]⟩, .nilFunc] 97)).frozen? ⟨w.heap.size + 1, 0, none⟩ = false := X2.free 0
  have k1 : (w1.alloc (.cells #[.string ⟨#[]⟩, .string ⟨#[]⟩, .nilFunc] 97)).cell? ⟨w.heap.size + 1, 1, none⟩ = some (.int .i64 0) := (X2.cell 1).trans rfl
  have f1 : (w1.alloc (.cells #[.string ⟨#[]⟩, .string ⟨#[]⟩, .nilFunc] 97)).frozen? ⟨w.heap.size + 1, 1, none⟩ = false := X2.free 1
  have k2 : (w1.alloc (.cells #[.string ⟨#[]⟩, .string ⟨#[]⟩, .nilFunc] 97)).cell? ⟨w.heap.size + 1, 2, none⟩ = some (.int .i64 0) := (X2.cell 2).trans rfl
  have f2 : (w1.alloc (.cells #[.string ⟨#[]⟩, .string ⟨#[]⟩, .nilFunc] 97)).frozen? ⟨w.heap.size + 1, 2, none⟩ = false := X2.free 2
  have k3 : (w1.alloc (.cells #[.string ⟨#[]⟩, .string ⟨#[]⟩, .nilFunc] 97)).cell? ⟨w.heap.size + 1, 3, none⟩ = some (.int .i64 0) := (X2.cell 3).trans rfl
  have f3 : (w1.alloc (.cells #[.string ⟨#[]⟩, .string ⟨#[]⟩, .nilFunc] 97)).frozen? ⟨w.heap.size + 1, 3, none⟩ = false := X2.free 3
  have k4 : (w1.alloc (.cells #[.string ⟨#[]⟩, .string ⟨#[]⟩, .nilFunc] 97)).cell? ⟨w.heap.size + 1, 4, none⟩ = some (.int .i64 0) := (X2.cell 4).trans rfl
  have f4 : (w1.alloc (.cells #[.string ⟨#[]⟩, .string ⟨#[]⟩, .nilFunc] 97)).frozen? ⟨w.heap.size + 1, 4, none⟩ = false := X2.free 4
  have k5 : (w1.alloc (.cells #[.string ⟨#[]⟩, .string ⟨#[]⟩, .nilFunc] 97)).cell? ⟨w.heap.size + 1, 5, none⟩ = some (.int .i64 0) := (X2.cell 5).trans rfl
  have f5 : (w1.alloc (.cells #[.string ⟨#[]⟩, .string ⟨#[]⟩, .nilFunc] 97)).frozen? ⟨w.heap.size + 1, 5, none⟩ = false := X2.free 5
  have k6 : (w1.alloc (.cells #[.string ⟨#[]⟩, .string ⟨#[]⟩, .nilFunc] 97)).cell? ⟨w.heap.size + 1, 6, none⟩ = some (.int .i64 0) := (X2.cell 6).trans rfl
  have f6 : (w1.alloc (.cells #[.string ⟨#[]⟩, .string ⟨#[]⟩, .nilFunc] 97)).frozen? ⟨w.heap.size + 1, 6, none⟩ = false := X2.free 6
  have k7 : (w1.alloc (.cells #[.string ⟨#[]⟩, .string ⟨#[]⟩, .nilFunc] 97)).cell? ⟨w.heap.size + 1, 7, none⟩ = some (.int .i64 0) := (X2.cell 7).trans rfl
  have f7 : (w1.alloc (.cells #[.string ⟨#[]⟩, .string ⟨#[]⟩, .nilFunc] 97)).frozen? ⟨w.heap.size + 1, 7, none⟩ = false := X2.free 7
  have k8 : (w1.alloc (.cells #[.string ⟨#[]⟩, .string ⟨#[]⟩, .nilFunc] 97)).cell? ⟨w.heap.size + 1, 8, none⟩ = some (.string ⟨#[]⟩) := (X2.cell 8).trans rfl
  have f8 : (w1.alloc (.cells #[.string ⟨#[]⟩, .string ⟨#[]⟩, .nilFunc] 97)).frozen? ⟨w.heap.size + 1, 8, none⟩ = false := X2.free 8
  have k9 : (w1.alloc (.cells #[.string ⟨#[]⟩, .string ⟨#[]⟩, .nilFunc] 97)).cell? ⟨w.heap.size + 1, 9, none⟩ = some (.slice none 0 0) := (X2.cell 9).trans rfl
  have f9 : (w1.alloc (.cells #[.string ⟨#[]⟩, .string ⟨#[]⟩, .nilFunc] 97)).frozen? ⟨w.heap.size + 1, 9, none⟩ = false := X2.free 9
  go_wp2
  clear k0 f0 k1 f1 k2 f2 k3 f3 k4 f4 k5 f5 k6 f6 k7 f7 k8 f8 k9 f9
  have Y := put10_at X2 (.int .i64 0) (.int .i64 0) (.int .i64 0) (.int .i64 0) (.int .i64 0) (.int .i64 0) (.int .i64 0) (.int .i64 0) (.string ⟨#[]⟩) (.slice none 0 0)
  have GY := put10_bl (b := w.heap.size + 1) G2 (by omega) (.int .i64 0) (.int .i64 0) (.int .i64 0) (.int .i64 0) (.int .i64 0) (.int .i64 0) (.int .i64 0) (.int .i64 0) (.string ⟨#[]⟩) (.slice none 0 0)
  generalize (((((((((((w1.alloc (.cells #[.string ⟨#[]⟩, .string ⟨#[]⟩, .nilFunc] 97)).setCell ⟨w.heap.size + 1, 0, none⟩ (.int .i64 0)).setCell ⟨w.heap.size + 1, 1, none⟩ (.int .i64 0)).setCell ⟨w.heap.size + 1, 2, none⟩ (.int .i64 0)).setCell ⟨w.heap.size + 1, 3, none⟩ (.int .i64 0)).setCell ⟨w.heap.size + 1, 4, none⟩ (.int .i64 0)).setCell ⟨w.heap.size + 1, 5, none⟩ (.int .i64 0)).setCell ⟨w.heap.size + 1, 6, none⟩ (.int .i64 0)).setCell ⟨w.heap.size + 1, 7, none⟩ (.int .i64 0)).setCell ⟨w.heap.size + 1, 8, none⟩ (.string ⟨#[]⟩)).setCell ⟨w.heap.size + 1, 9, none⟩ (.slice none 0 0)) = VV at *
  have d0 : VV.cell? ⟨w.heap.size + 1, 0, none⟩ = some (.int .i64 0) := (Y.cell 0).trans rfl
  have d1 : VV.cell? ⟨w.heap.size + 1, 1, none⟩ = some (.int .i64 0) := (Y.cell 1).trans rfl
  have d2 : VV.cell? ⟨w.heap.size + 1, 2, none⟩ = some (.int .i64 0) := (Y.cell 2).trans rfl
  have d3 : VV.cell? ⟨w.heap.size + 1, 3, none⟩ = some (.int .i64 0) := (Y.cell 3).trans rfl
  have d4 : VV.cell? ⟨w.heap.size + 1, 4, none⟩ = some (.int .i64 0) := (Y.cell 4).trans rfl
  have d5 : VV.cell? ⟨w.heap.size + 1, 5, none⟩ = some (.int .i64 0) := (Y.cell 5).trans rfl
  have d6 : VV.cell? ⟨w.heap.size + 1, 6, none⟩ = some (.int .i64 0) := (Y.cell 6).trans rfl
  have d7 : VV.cell? ⟨w.heap.size + 1, 7, none⟩ = some (.int .i64 0) := (Y.cell 7).trans rfl
  have d8 : VV.cell? ⟨w.heap.size + 1, 8, none⟩ = some (.string ⟨#[]⟩) := (Y.cell 8).trans rfl
  have d9 : VV.cell? ⟨w.heap.size + 1, 9, none⟩ = some (.slice none 0 0) := (Y.cell 9).trans rfl
  exact bodyPost_ret (v := .tuple #[.agg #[.int .i64 0, .int .i64 0, .int .i64 0, .int .i64 0, .int .i64 0, .int .i64 0, .int .i64 0, .int .i64 0, .string ⟨#[]⟩, .slice none 0 0], .int .i64 12]) (by simp [results, Tryd.results16, go_sem, d0, d1, d2, d3, d4, d5, d6, d7, d8, d9]) rfl ⟨.slice none 0 0, rfl, IsQ.zero _ _, GY⟩
def c10 (r : Rq) (d : Value) : Array Value := #[.int .i64 r.op, .int .i64 r.id, .int .i64 r.a, .int .i64 r.b, .int .i64 r.x0, .int .i64 r.y0, .int .i64 r.x1, .int .i64 r.y1, .string r.s, d]
set_option maxRecDepth 100000 in
set_option maxHeartbeats 2000000 in
theorem dec_short (N n : Nat) (hN : N < 19) (id : Int) (A : Option Addr) (c : Nat) (w : World) (F M : ByteArray) (g : Nat) (l : List Av) (E : Int) (hE : ¬ E = 0) (I : Bool)
    (c1 : ∀ V, Calls Tryd.prog 48 #[.int .i64 N] V (Rt V (.tuple #[.agg #[.string M, .string F, .func (.func g) #[] #[]], .bool true])))
    (cu : ∀ V, Bl w V → Calls Tryd.prog 49 #[.string F, .slice A n c] V (UnL V (l, E)))
    (_ci : ∀ V, Calls Tryd.prog 51 #[.int .i64 N, .int .i64 id] V (Rt V (.bool I)))
    (_cc : ∀ args V, (callFunc g args).run Tryd.prog V = .ok (.enter g args) V)
    (hk : ∀ v ∈ l, v.k = 0 ∨ v.k = 1 ∨ v.k = 2 ∨ v.k = 3) (_hl2 : l.length ≤ 2) :
    Calls Tryd.prog 16 #[.agg #[.int .i64 N, .int .i64 id, .slice A n c]] w (DecQ w (fun k => w.heap.size ≤ k) (zQ, E)) := by
  have hNm : IntKind.i64.wrap (N : Int) = N := IntWalk.i64_in _ (by omega)
  replace hk := Lib.hid hk
  go_enter Tryd.func16, Tryd.ntmps16
  go_wp2_with fail
  refine (c1 _).mono ?_
  rintro e w1 ⟨rfl, g1⟩
  have X0 := ((At.new w #[.int .i64 N, .int .i64 id, .slice A n c] 24).alloc (.cells #[.int .i64 0, .int .i64 0, .int .i64 0, .int .i64 0, .int .i64 0, .int .i64 0, .int .i64 0, .int .i64 0, .string ⟨#[]⟩, .slice none 0 0] 36)).gr g1
  have X1 := (At.newAt (w := w.alloc (.cells #[.int .i64 N, .int .i64 id, .slice A n c] 24)) (n := w.heap.size + 1) (by simp) #[.int .i64 0, .int .i64 0, .int .i64 0, .int .i64 0, .int .i64 0, .int .i64 0, .int .i64 0, .int .i64 0, .string ⟨#[]⟩, .slice none 0 0] 36).gr g1
  have G1 : Bl w w1 := (((Bl.refl w).alloc _).alloc _).gr g1
  have X02 := X0.alloc (.cells #[.string M, .string F, .func (.func g) #[] #[]] 97)
  have X12 := X1.alloc (.cells #[.string M, .string F, .func (.func g) #[] #[]] 97)
  have X22 := At.new w1 #[.string M, .string F, .func (.func g) #[] #[]] 97
  have G2 := G1.alloc (.cells #[.string M, .string F, .func (.func g) #[] #[]] 97)
  have mk2 : (w1.alloc (.cells #[.string M, .string F, .func (.func g) #[] #[]] 97)).cell? ⟨w.heap.size, 2, none⟩ = some (.slice A n c) := (X02.cell 2).trans rfl
  go_wp2_with fail
  refine (cu _ G2).mono ?_
  rintro e w2 ⟨A', c', xs, rfl, hY, hall, hlow, g2⟩
  have G3 := G2.trans g2
  have hxl := hall.len
  have hsz := G2.size
  have hz1 : w.heap.size + 2 ≤ w1.heap.size := by have := g1.size; simp at this; omega
  replace hlow : ∀ v ∈ xs, ∀ k, vb v = some k → w.heap.size + 2 ≤ k ∧ k < w2.heap.size := fun v hv k hk => by
    have := hlow v hv k hk
    simp at this
    omega
  have X03 := X02.bl g2
  have X13 := X12.bl g2
  have X23 := X22.bl g2
  clear X0 X1 X02 X12 X22 mk2 G1 hsz
  have k0 : (w2).cell? ⟨w.heap.size + 1, 0, none⟩ = some (.int .i64 0) := (X13.cell 0).trans rfl
  have f0 : (w2).frozen? ⟨w.heap.size + 1, 0, none⟩ = false := X13.free 0
  have k1 : (w2).cell? ⟨w.heap.size + 1, 1, none⟩ = some (.int .i64 0) := (X13.cell 1).trans rfl
  have f1 : (w2).frozen? ⟨w.heap.size + 1, 1, none⟩ = false := X13.free 1
  have k2 : (w2).cell? ⟨w.heap.size + 1, 2, none⟩ = some (.int .i64 0) := (X13.cell 2).trans rfl
  have f2 : (w2).frozen? ⟨w.heap.size + 1, 2, none⟩ = false := X13.free 2
  have k3 : (w2).cell? ⟨w.heap.size + 1, 3, none⟩ = some (.int .i64 0) := (X13.cell 3).trans rfl
  have f3 : (w2).frozen? ⟨w.heap.size + 1, 3, none⟩ = false := X13.free 3
  have k4 : (w2).cell? ⟨w.heap.size + 1, 4, none⟩ = some (.int .i64 0) := (X13.cell 4).trans rfl
  have f4 : (w2).frozen? ⟨w.heap.size + 1, 4, none⟩ = false := X13.free 4
  have k5 : (w2).cell? ⟨w.heap.size + 1, 5, none⟩ = some (.int .i64 0) := (X13.cell 5).trans rfl
  have f5 : (w2).frozen? ⟨w.heap.size + 1, 5, none⟩ = false := X13.free 5
  have k6 : (w2).cell? ⟨w.heap.size + 1, 6, none⟩ = some (.int .i64 0) := (X13.cell 6).trans rfl
  have f6 : (w2).frozen? ⟨w.heap.size + 1, 6, none⟩ = false := X13.free 6
  have k7 : (w2).cell? ⟨w.heap.size + 1, 7, none⟩ = some (.int .i64 0) := (X13.cell 7).trans rfl
  have f7 : (w2).frozen? ⟨w.heap.size + 1, 7, none⟩ = false := X13.free 7
  have k8 : (w2).cell? ⟨w.heap.size + 1, 8, none⟩ = some (.string ⟨#[]⟩) := (X13.cell 8).trans rfl
  have f8 : (w2).frozen? ⟨w.heap.size + 1, 8, none⟩ = false := X13.free 8
  have k9 : (w2).cell? ⟨w.heap.size + 1, 9, none⟩ = some (.slice none 0 0) := (X13.cell 9).trans rfl
  have f9 : (w2).frozen? ⟨w.heap.size + 1, 9, none⟩ = false := X13.free 9
  dsimp only at hxl
  generalize xs.length = nx at *
  go_wp2
  clear k0 f0 k1 f1 k2 f2 k3 f3 k4 f4 k5 f5 k6 f6 k7 f7 k8 f8 k9 f9
  have Y := put10_at X13 (.int .i64 0) (.int .i64 0) (.int .i64 0) (.int .i64 0) (.int .i64 0) (.int .i64 0) (.int .i64 0) (.int .i64 0) (.string ⟨#[]⟩) (.slice none 0 0)
  have GY := put10_bl (b := w.heap.size + 1) G3 (by omega) (.int .i64 0) (.int .i64 0) (.int .i64 0) (.int .i64 0) (.int .i64 0) (.int .i64 0) (.int .i64 0) (.int .i64 0) (.string ⟨#[]⟩) (.slice none 0 0)
  generalize ((((((((((w2.setCell ⟨w.heap.size + 1, 0, none⟩ (.int .i64 0)).setCell ⟨w.heap.size + 1, 1, none⟩ (.int .i64 0)).setCell ⟨w.heap.size + 1, 2, none⟩ (.int .i64 0)).setCell ⟨w.heap.size + 1, 3, none⟩ (.int .i64 0)).setCell ⟨w.heap.size + 1, 4, none⟩ (.int .i64 0)).setCell ⟨w.heap.size + 1, 5, none⟩ (.int .i64 0)).setCell ⟨w.heap.size + 1, 6, none⟩ (.int .i64 0)).setCell ⟨w.heap.size + 1, 7, none⟩ (.int .i64 0)).setCell ⟨w.heap.size + 1, 8, none⟩ (.string ⟨#[]⟩)).setCell ⟨w.heap.size + 1, 9, none⟩ (.slice none 0 0)) = VV at *
  have d0 : VV.cell? ⟨w.heap.size + 1, 0, none⟩ = some (.int .i64 0) := (Y.cell 0).trans rfl
  have d1 : VV.cell? ⟨w.heap.size + 1, 1, none⟩ = some (.int .i64 0) := (Y.cell 1).trans rfl
  have d2 : VV.cell? ⟨w.heap.size + 1, 2, none⟩ = some (.int .i64 0) := (Y.cell 2).trans rfl
  have d3 : VV.cell? ⟨w.heap.size + 1, 3, none⟩ = some (.int .i64 0) := (Y.cell 3).trans rfl
  have d4 : VV.cell? ⟨w.heap.size + 1, 4, none⟩ = some (.int .i64 0) := (Y.cell 4).trans rfl
  have d5 : VV.cell? ⟨w.heap.size + 1, 5, none⟩ = some (.int .i64 0) := (Y.cell 5).trans rfl
  have d6 : VV.cell? ⟨w.heap.size + 1, 6, none⟩ = some (.int .i64 0) := (Y.cell 6).trans rfl
  have d7 : VV.cell? ⟨w.heap.size + 1, 7, none⟩ = some (.int .i64 0) := (Y.cell 7).trans rfl
  have d8 : VV.cell? ⟨w.heap.size + 1, 8, none⟩ = some (.string ⟨#[]⟩) := (Y.cell 8).trans rfl
  have d9 : VV.cell? ⟨w.heap.size + 1, 9, none⟩ = some (.slice none 0 0) := (Y.cell 9).trans rfl
  exact bodyPost_ret (v := .tuple #[.agg #[.int .i64 0, .int .i64 0, .int .i64 0, .int .i64 0, .int .i64 0, .int .i64 0, .int .i64 0, .int .i64 0, .string ⟨#[]⟩, .slice none 0 0], .int .i64 E]) (by simp [results, Tryd.results16, go_sem, d0, d1, d2, d3, d4, d5, d6, d7, d8, d9]) rfl ⟨.slice none 0 0, rfl, IsQ.zero _ _, GY⟩
set_option maxRecDepth 100000 in
set_option maxHeartbeats 2000000 in
theorem dec_id (N n : Nat) (hN : N < 19) (id : Int) (A : Option Addr) (c : Nat) (w : World) (F M : ByteArray) (g : Nat) (l : List Av) (E : Int) (hE : E = 0) (I : Bool) (hI : I = false)
    (c1 : ∀ V, Calls Tryd.prog 48 #[.int .i64 N] V (Rt V (.tuple #[.agg #[.string M, .string F, .func (.func g) #[] #[]], .bool true])))
    (cu : ∀ V, Bl w V → Calls Tryd.prog 49 #[.string F, .slice A n c] V (UnL V (l, E)))
    (ci : ∀ V, Calls Tryd.prog 51 #[.int .i64 N, .int .i64 id] V (Rt V (.bool I)))
    (_cc : ∀ args V, (callFunc g args).run Tryd.prog V = .ok (.enter g args) V)
    (hk : ∀ v ∈ l, v.k = 0 ∨ v.k = 1 ∨ v.k = 2 ∨ v.k = 3) (hl2 : l.length ≤ 2) :
    Calls Tryd.prog 16 #[.agg #[.int .i64 N, .int .i64 id, .slice A n c]] w (DecQ w (fun k => w.heap.size ≤ k) (zQ, 4)) := by
  subst hE hI
  have hNm : IntKind.i64.wrap (N : Int) = N := IntWalk.i64_in _ (by omega)
  replace hk := Lib.hid hk
  go_enter Tryd.func16, Tryd.ntmps16
  go_wp2_with fail
  refine (c1 _).mono ?_
  rintro e w1 ⟨rfl, g1⟩
  have X0 := ((At.new w #[.int .i64 N, .int .i64 id, .slice A n c] 24).alloc (.cells #[.int .i64 0, .int .i64 0, .int .i64 0, .int .i64 0, .int .i64 0, .int .i64 0, .int .i64 0, .int .i64 0, .string ⟨#[]⟩, .slice none 0 0] 36)).gr g1
  have X1 := (At.newAt (w := w.alloc (.cells #[.int .i64 N, .int .i64 id, .slice A n c] 24)) (n := w.heap.size + 1) (by simp) #[.int .i64 0, .int .i64 0, .int .i64 0, .int .i64 0, .int .i64 0, .int .i64 0, .int .i64 0, .int .i64 0, .string ⟨#[]⟩, .slice none 0 0] 36).gr g1
  have G1 : Bl w w1 := (((Bl.refl w).alloc _).alloc _).gr g1
  have X02 := X0.alloc (.cells #[.string M, .string F, .func (.func g) #[] #[]] 97)
  have X12 := X1.alloc (.cells #[.string M, .string F, .func (.func g) #[] #[]] 97)
  have X22 := At.new w1 #[.string M, .string F, .func (.func g) #[] #[]] 97
  have G2 := G1.alloc (.cells #[.string M, .string F, .func (.func g) #[] #[]] 97)
  have mk2 : (w1.alloc (.cells #[.string M, .string F, .func (.func g) #[] #[]] 97)).cell? ⟨w.heap.size, 2, none⟩ = some (.slice A n c) := (X02.cell 2).trans rfl
  go_wp2_with fail
  refine (cu _ G2).mono ?_
  rintro e w2 ⟨A', c', xs, rfl, hY, hall, hlow, g2⟩
  have G3 := G2.trans g2
  have hxl := hall.len
  have hsz := G2.size
  have hz1 : w.heap.size + 2 ≤ w1.heap.size := by have := g1.size; simp at this; omega
  replace hlow : ∀ v ∈ xs, ∀ k, vb v = some k → w.heap.size + 2 ≤ k ∧ k < w2.heap.size := fun v hv k hk => by
    have := hlow v hv k hk
    simp at this
    omega
  have X03 := X02.bl g2
  have X13 := X12.bl g2
  have X23 := X22.bl g2
  clear X0 X1 X02 X12 X22 mk2 G1 hsz
  dsimp only at hxl hall
  obtain ⟨nx, hnx⟩ : ∃ nx, nx = xs.length := ⟨_, rfl⟩
  rw [← hnx] at hxl ⊢
  have hnx2 : nx ≤ 2 := by omega
  have hfar : FarY (w2.alloc (.cells #[.int .i64 N, .int .i64 id, .int .i64 0, .int .i64 0, .int .i64 0, .int .i64 0, .int .i64 0, .int .i64 0, .string ⟨#[]⟩, .slice none 0 0] 36)) (some w2.heap.size) xs := fun v hv k hk => by
    have := (hlow v hv k hk).2
    refine ⟨fun e => ?_, by simp; omega⟩
    have e' : w2.heap.size = k := by simpa using e
    omega
  have hYf := hY.far
  have hY3 := hY.bl ((Bl.refl w2).alloc (.cells #[.int .i64 N, .int .i64 id, .int .i64 0, .int .i64 0, .int .i64 0, .int .i64 0, .int .i64 0, .int .i64 0, .string ⟨#[]⟩, .slice none 0 0] 36))
  have hall3 := hall.bl ((Bl.refl w2).alloc (.cells #[.int .i64 N, .int .i64 id, .int .i64 0, .int .i64 0, .int .i64 0, .int .i64 0, .int .i64 0, .int .i64 0, .string ⟨#[]⟩, .slice none 0 0] 36))
  have X04 := X03.alloc (.cells #[.int .i64 N, .int .i64 id, .int .i64 0, .int .i64 0, .int .i64 0, .int .i64 0, .int .i64 0, .int .i64 0, .string ⟨#[]⟩, .slice none 0 0] 36)
  have X14 := X13.alloc (.cells #[.int .i64 N, .int .i64 id, .int .i64 0, .int .i64 0, .int .i64 0, .int .i64 0, .int .i64 0, .int .i64 0, .string ⟨#[]⟩, .slice none 0 0] 36)
  have X24 := X23.alloc (.cells #[.int .i64 N, .int .i64 id, .int .i64 0, .int .i64 0, .int .i64 0, .int .i64 0, .int .i64 0, .int .i64 0, .string ⟨#[]⟩, .slice none 0 0] 36)
  have L0 := X03.lt
  have L1 := X13.lt
  have L2 := X23.lt
  have a0 : w2.cell? ⟨w.heap.size, 0, none⟩ = some (.int .i64 N) := (X03.cell 0).trans rfl
  have a1 : w2.cell? ⟨w.heap.size, 1, none⟩ = some (.int .i64 id) := (X03.cell 1).trans rfl
  replace hlow := Lib.hid hlow
  replace hfar := Lib.hid hfar
  replace hYf := Lib.hid hYf
  replace hY3 := Lib.hid hY3
  replace hall3 := Lib.hid hall3
  replace hnx := Lib.hid hnx
  replace hxl := Lib.hid hxl
  clear X03 X13 X23 hY hall
  have hsz3 := G3.size
  go_wp2
  clear a0 a1
  go_loopw [39] (fun i wr => ∃ k rk dk, k ≤ nx ∧ i = .int .i64 ((k : Nat) : Int) ∧ Hid (rk = setL (oQ N id) 0 (l.take k)) ∧ At wr w2.heap.size (c10 rk dk) 36 ∧ IsQ wr (fun z => w.heap.size + 2 ≤ z ∧ z < w2.heap.size) rk dk ∧ World.grownBy (w2.alloc (.cells #[.int .i64 N, .int .i64 id, .int .i64 0, .int .i64 0, .int .i64 0, .int .i64 0, .int .i64 0, .int .i64 0, .string ⟨#[]⟩, .slice none 0 0] 36)) wr (some w2.heap.size) ∧ Bl w wr) (fun i _ => nx - (intOf i).toNat)
  case atStart => exact ⟨0, oQ N id, .slice none 0 0, Nat.zero_le _, rfl, Lib.hid rfl, At.new w2 _ _, IsQ.bare _ _ _ _, By.refl _ _, G3.alloc _⟩
  case round =>
    obtain ⟨k, rk, dk, hkn, rfl, hrk, hX, hQ, gB, GG⟩ := hrel
    by_cases hlt : k < nx
    · have q1 : (k : Int) < nx := by omega
      obtain ⟨b, off, u, rfl, hu, hcell⟩ := (hY3.out.by gB hYf.out).at (k := k) (by rw [← hnx.out]; exact hlt)
      obtain ⟨a, ha⟩ := list_at (l := l) (k := k) (by rw [← hxl.out]; exact hlt)
      have hIs := (hall3.out.by gB hfar.out).at hu ha
      have hum := List.mem_of_getElem? hu
      have cw := with1 rk k a u dk (fun z => w.heap.size + 2 ≤ z ∧ z < w2.heap.size) wr (hk.out a (List.mem_of_getElem? ha)) hIs hQ (.inr (hlow.out u hum))
      have hnext : setA rk k a = setL (oQ N id) 0 (l.take (k + 1)) := by
        rw [take_snoc1 ha, setL_snoc, ← hrk.out, List.length_take, Nat.min_eq_left (by have := hxl.out; omega), Nat.zero_add]
      obtain ⟨A0, c0, rfl, _⟩ := hQ.sv
      unfold vQ at cw
      obtain ⟨T, x, rfl⟩ := hIs.isIface
      generalize setA rk k a = rk' at *
      generalize rk.d.length = n0 at *
      replace hnext := Lib.hid hnext
      replace cw := Lib.hid cw
      clear hIs hum ha hu hQ
      have k0 : (wr).cell? ⟨w2.heap.size, 0, none⟩ = some (.int .i64 rk.op) := (hX.cell 0).trans rfl
      have f0 : (wr).frozen? ⟨w2.heap.size, 0, none⟩ = false := hX.free 0
      have k1 : (wr).cell? ⟨w2.heap.size, 1, none⟩ = some (.int .i64 rk.id) := (hX.cell 1).trans rfl
      have f1 : (wr).frozen? ⟨w2.heap.size, 1, none⟩ = false := hX.free 1
      have k2 : (wr).cell? ⟨w2.heap.size, 2, none⟩ = some (.int .i64 rk.a) := (hX.cell 2).trans rfl
      have f2 : (wr).frozen? ⟨w2.heap.size, 2, none⟩ = false := hX.free 2
      have k3 : (wr).cell? ⟨w2.heap.size, 3, none⟩ = some (.int .i64 rk.b) := (hX.cell 3).trans rfl
      have f3 : (wr).frozen? ⟨w2.heap.size, 3, none⟩ = false := hX.free 3
      have k4 : (wr).cell? ⟨w2.heap.size, 4, none⟩ = some (.int .i64 rk.x0) := (hX.cell 4).trans rfl
      have f4 : (wr).frozen? ⟨w2.heap.size, 4, none⟩ = false := hX.free 4
      have k5 : (wr).cell? ⟨w2.heap.size, 5, none⟩ = some (.int .i64 rk.y0) := (hX.cell 5).trans rfl
      have f5 : (wr).frozen? ⟨w2.heap.size, 5, none⟩ = false := hX.free 5
      have k6 : (wr).cell? ⟨w2.heap.size, 6, none⟩ = some (.int .i64 rk.x1) := (hX.cell 6).trans rfl
      have f6 : (wr).frozen? ⟨w2.heap.size, 6, none⟩ = false := hX.free 6
      have k7 : (wr).cell? ⟨w2.heap.size, 7, none⟩ = some (.int .i64 rk.y1) := (hX.cell 7).trans rfl
      have f7 : (wr).frozen? ⟨w2.heap.size, 7, none⟩ = false := hX.free 7
      have k8 : (wr).cell? ⟨w2.heap.size, 8, none⟩ = some (.string rk.s) := (hX.cell 8).trans rfl
      have f8 : (wr).frozen? ⟨w2.heap.size, 8, none⟩ = false := hX.free 8
      have k9 : (wr).cell? ⟨w2.heap.size, 9, none⟩ = some (.slice A0 n0 c0) := (hX.cell 9).trans rfl
      have f9 : (wr).frozen? ⟨w2.heap.size, 9, none⟩ = false := hX.free 9
      go_wp2_with fail
      refine cw.out.mono ?_
      rintro e w5 ⟨d', rfl, hQ', g5⟩
      have hX5 := hX.gr g5
      have GG5 := GG.gr g5
      have gB5 := By.trans gB (g5.bl.byr _)
      obtain ⟨A1, c1', rfl, _⟩ := hQ'.sv
      clear k0 f0 k1 f1 k2 f2 k3 f3 k4 f4 k5 f5 k6 f6 k7 f7 k8 f8 k9 f9
      have sk0 : (w5).cell? ⟨w2.heap.size, 0, none⟩ = some (.int .i64 rk.op) := (hX5.cell 0).trans rfl
      have sf0 : (w5).frozen? ⟨w2.heap.size, 0, none⟩ = false := hX5.free 0
      have sk1 : (w5).cell? ⟨w2.heap.size, 1, none⟩ = some (.int .i64 rk.id) := (hX5.cell 1).trans rfl
      have sf1 : (w5).frozen? ⟨w2.heap.size, 1, none⟩ = false := hX5.free 1
      have sk2 : (w5).cell? ⟨w2.heap.size, 2, none⟩ = some (.int .i64 rk.a) := (hX5.cell 2).trans rfl
      have sf2 : (w5).frozen? ⟨w2.heap.size, 2, none⟩ = false := hX5.free 2
      have sk3 : (w5).cell? ⟨w2.heap.size, 3, none⟩ = some (.int .i64 rk.b) := (hX5.cell 3).trans rfl
      have sf3 : (w5).frozen? ⟨w2.heap.size, 3, none⟩ = false := hX5.free 3
      have sk4 : (w5).cell? ⟨w2.heap.size, 4, none⟩ = some (.int .i64 rk.x0) := (hX5.cell 4).trans rfl
      have sf4 : (w5).frozen? ⟨w2.heap.size, 4, none⟩ = false := hX5.free 4
      have sk5 : (w5).cell? ⟨w2.heap.size, 5, none⟩ = some (.int .i64 rk.y0) := (hX5.cell 5).trans rfl
      have sf5 : (w5).frozen? ⟨w2.heap.size, 5, none⟩ = false := hX5.free 5
      have sk6 : (w5).cell? ⟨w2.heap.size, 6, none⟩ = some (.int .i64 rk.x1) := (hX5.cell 6).trans rfl
      have sf6 : (w5).frozen? ⟨w2.heap.size, 6, none⟩ = false := hX5.free 6
      have sk7 : (w5).cell? ⟨w2.heap.size, 7, none⟩ = some (.int .i64 rk.y1) := (hX5.cell 7).trans rfl
      have sf7 : (w5).frozen? ⟨w2.heap.size, 7, none⟩ = false := hX5.free 7
      have sk8 : (w5).cell? ⟨w2.heap.size, 8, none⟩ = some (.string rk.s) := (hX5.cell 8).trans rfl
      have sf8 : (w5).frozen? ⟨w2.heap.size, 8, none⟩ = false := hX5.free 8
      have sk9 : (w5).cell? ⟨w2.heap.size, 9, none⟩ = some (.slice A0 n0 c0) := (hX5.cell 9).trans rfl
      have sf9 : (w5).frozen? ⟨w2.heap.size, 9, none⟩ = false := hX5.free 9
      replace hQ' := Lib.hid hQ'
      have hB5 := put10_by gB5 (.int .i64 rk'.op) (.int .i64 rk'.id) (.int .i64 rk'.a) (.int .i64 rk'.b) (.int .i64 rk'.x0) (.int .i64 rk'.y0) (.int .i64 rk'.x1) (.int .i64 rk'.y1) (.string rk'.s) ((Value.slice A1 rk'.d.length c1'))
      have hX6 := put10_at hX5 (.int .i64 rk'.op) (.int .i64 rk'.id) (.int .i64 rk'.a) (.int .i64 rk'.b) (.int .i64 rk'.x0) (.int .i64 rk'.y0) (.int .i64 rk'.x1) (.int .i64 rk'.y1) (.string rk'.s) ((Value.slice A1 rk'.d.length c1'))
      have GG6 := put10_bl (b := w2.heap.size) GG5 hsz3 (.int .i64 rk'.op) (.int .i64 rk'.id) (.int .i64 rk'.a) (.int .i64 rk'.b) (.int .i64 rk'.x0) (.int .i64 rk'.y0) (.int .i64 rk'.x1) (.int .i64 rk'.y1) (.string rk'.s) ((Value.slice A1 rk'.d.length c1'))
      have hB6 := put10_by (By.refl w5 (some w2.heap.size)) (.int .i64 rk'.op) (.int .i64 rk'.id) (.int .i64 rk'.a) (.int .i64 rk'.b) (.int .i64 rk'.x0) (.int .i64 rk'.y0) (.int .i64 rk'.x1) (.int .i64 rk'.y1) (.string rk'.s) ((Value.slice A1 rk'.d.length c1'))
      have hQ6 := (hQ'.out.bl g5.bl).by hB6 (fun z hz => by have := hz.2; omega)
      replace hQ6 := Lib.hid hQ6
      replace hX6 := Lib.hid hX6
      replace hB5 := Lib.hid hB5
      replace GG6 := Lib.hid GG6
      clear hB6 hQ' gB5 GG5
      go_wp2
      go_roundw
      case rel => exact ⟨k + 1, rk', _, by omega, by go_num, hnext, hX6.out, hQ6.out, hB5.out, GG6.out⟩
      case measure => simp [intOf]; omega
    · have q1 : ¬ (k : Int) < nx := by omega
      have hkn' : k = nx := by omega
      have hrkR : rk = setL (oQ N id) 0 l := by rw [hrk.out, List.take_of_length_le (by rw [← hxl.out]; omega)]
      have Y0 := X04.grown gB (by simp; omega)
      have Y1 := X14.grown gB (by simp; omega)
      have Y2 := X24.grown gB (by simp; omega)
      replace hkn' := Lib.hid hkn'
      clear hY3 hall3 hfar hYf X04 X14 X24
      obtain ⟨A0, c0, rfl, _⟩ := hQ.sv
      have m0 : wr.cell? ⟨w.heap.size, 0, none⟩ = some (.int .i64 N) := (Y0.cell 0).trans rfl
      have m1 : wr.cell? ⟨w.heap.size, 1, none⟩ = some (.int .i64 id) := (Y0.cell 1).trans rfl
      go_wp2_with fail
      refine (ci _).mono ?_
      rintro e w6 ⟨rfl, g6⟩
      have Z0 := Y0.gr g6
      have Z1 := Y1.gr g6
      have Z2 := Y2.gr g6
      have hX6 := hX.gr g6
      have GG6 := GG.gr g6
      clear m0 m1 Y0 Y1 Y2 hX GG
      have k0 : (w6).cell? ⟨w.heap.size + 1, 0, none⟩ = some (.int .i64 0) := (Z1.cell 0).trans rfl
      have f0 : (w6).frozen? ⟨w.heap.size + 1, 0, none⟩ = false := Z1.free 0
      have k1 : (w6).cell? ⟨w.heap.size + 1, 1, none⟩ = some (.int .i64 0) := (Z1.cell 1).trans rfl
      have f1 : (w6).frozen? ⟨w.heap.size + 1, 1, none⟩ = false := Z1.free 1
      have k2 : (w6).cell? ⟨w.heap.size + 1, 2, none⟩ = some (.int .i64 0) := (Z1.cell 2).trans rfl
      have f2 : (w6).frozen? ⟨w.heap.size + 1, 2, none⟩ = false := Z1.free 2
      have k3 : (w6).cell? ⟨w.heap.size + 1, 3, none⟩ = some (.int .i64 0) := (Z1.cell 3).trans rfl
      have f3 : (w6).frozen? ⟨w.heap.size + 1, 3, none⟩ = false := Z1.free 3
      have k4 : (w6).cell? ⟨w.heap.size + 1, 4, none⟩ = some (.int .i64 0) := (Z1.cell 4).trans rfl
      have f4 : (w6).frozen? ⟨w.heap.size + 1, 4, none⟩ = false := Z1.free 4
      have k5 : (w6).cell? ⟨w.heap.size + 1, 5, none⟩ = some (.int .i64 0) := (Z1.cell 5).trans rfl
      have f5 : (w6).frozen? ⟨w.heap.size + 1, 5, none⟩ = false := Z1.free 5
      have k6 : (w6).cell? ⟨w.heap.size + 1, 6, none⟩ = some (.int .i64 0) := (Z1.cell 6).trans rfl
      have f6 : (w6).frozen? ⟨w.heap.size + 1, 6, none⟩ = false := Z1.free 6
      have k7 : (w6).cell? ⟨w.heap.size + 1, 7, none⟩ = some (.int .i64 0) := (Z1.cell 7).trans rfl
      have f7 : (w6).frozen? ⟨w.heap.size + 1, 7, none⟩ = false := Z1.free 7
      have k8 : (w6).cell? ⟨w.heap.size + 1, 8, none⟩ = some (.string ⟨#[]⟩) := (Z1.cell 8).trans rfl
      have f8 : (w6).frozen? ⟨w.heap.size + 1, 8, none⟩ = false := Z1.free 8
      have k9 : (w6).cell? ⟨w.heap.size + 1, 9, none⟩ = some (.slice none 0 0) := (Z1.cell 9).trans rfl
      have f9 : (w6).frozen? ⟨w.heap.size + 1, 9, none⟩ = false := Z1.free 9
      go_wp2
      clear k0 f0 k1 f1 k2 f2 k3 f3 k4 f4 k5 f5 k6 f6 k7 f7 k8 f8 k9 f9
      have Y := put10_at Z1 (.int .i64 0) (.int .i64 0) (.int .i64 0) (.int .i64 0) (.int .i64 0) (.int .i64 0) (.int .i64 0) (.int .i64 0) (.string ⟨#[]⟩) (.slice none 0 0)
      have GY := put10_bl (b := w.heap.size + 1) GG6 (by omega) (.int .i64 0) (.int .i64 0) (.int .i64 0) (.int .i64 0) (.int .i64 0) (.int .i64 0) (.int .i64 0) (.int .i64 0) (.string ⟨#[]⟩) (.slice none 0 0)
      generalize ((((((((((w6.setCell ⟨w.heap.size + 1, 0, none⟩ (.int .i64 0)).setCell ⟨w.heap.size + 1, 1, none⟩ (.int .i64 0)).setCell ⟨w.heap.size + 1, 2, none⟩ (.int .i64 0)).setCell ⟨w.heap.size + 1, 3, none⟩ (.int .i64 0)).setCell ⟨w.heap.size + 1, 4, none⟩ (.int .i64 0)).setCell ⟨w.heap.size + 1, 5, none⟩ (.int .i64 0)).setCell ⟨w.heap.size + 1, 6, none⟩ (.int .i64 0)).setCell ⟨w.heap.size + 1, 7, none⟩ (.int .i64 0)).setCell ⟨w.heap.size + 1, 8, none⟩ (.string ⟨#[]⟩)).setCell ⟨w.heap.size + 1, 9, none⟩ (.slice none 0 0)) = VV at *
      have d0 : VV.cell? ⟨w.heap.size + 1, 0, none⟩ = some (.int .i64 0) := (Y.cell 0).trans rfl
      have d1 : VV.cell? ⟨w.heap.size + 1, 1, none⟩ = some (.int .i64 0) := (Y.cell 1).trans rfl
      have d2 : VV.cell? ⟨w.heap.size + 1, 2, none⟩ = some (.int .i64 0) := (Y.cell 2).trans rfl
      have d3 : VV.cell? ⟨w.heap.size + 1, 3, none⟩ = some (.int .i64 0) := (Y.cell 3).trans rfl
      have d4 : VV.cell? ⟨w.heap.size + 1, 4, none⟩ = some (.int .i64 0) := (Y.cell 4).trans rfl
      have d5 : VV.cell? ⟨w.heap.size + 1, 5, none⟩ = some (.int .i64 0) := (Y.cell 5).trans rfl
      have d6 : VV.cell? ⟨w.heap.size + 1, 6, none⟩ = some (.int .i64 0) := (Y.cell 6).trans rfl
      have d7 : VV.cell? ⟨w.heap.size + 1, 7, none⟩ = some (.int .i64 0) := (Y.cell 7).trans rfl
      have d8 : VV.cell? ⟨w.heap.size + 1, 8, none⟩ = some (.string ⟨#[]⟩) := (Y.cell 8).trans rfl
      have d9 : VV.cell? ⟨w.heap.size + 1, 9, none⟩ = some (.slice none 0 0) := (Y.cell 9).trans rfl
      exact bodyPost_ret (v := .tuple #[.agg #[.int .i64 0, .int .i64 0, .int .i64 0, .int .i64 0, .int .i64 0, .int .i64 0, .int .i64 0, .int .i64 0, .string ⟨#[]⟩, .slice none 0 0], .int .i64 4]) (by simp [results, Tryd.results16, go_sem, d0, d1, d2, d3, d4, d5, d6, d7, d8, d9]) rfl ⟨.slice none 0 0, rfl, IsQ.zero _ _, GY⟩
set_option maxRecDepth 100000 in
set_option maxHeartbeats 2000000 in
theorem dec_arg (N n : Nat) (hN : N < 19) (id : Int) (A : Option Addr) (c : Nat) (w : World) (F M : ByteArray) (g : Nat) (l : List Av) (E : Int) (hE : E = 0) (I : Bool) (hI : I = true)
    (c1 : ∀ V, Calls Tryd.prog 48 #[.int .i64 N] V (Rt V (.tuple #[.agg #[.string M, .string F, .func (.func g) #[] #[]], .bool true])))
    (cu : ∀ V, Bl w V → Calls Tryd.prog 49 #[.string F, .slice A n c] V (UnL V (l, E)))
    (ci : ∀ V, Calls Tryd.prog 51 #[.int .i64 N, .int .i64 id] V (Rt V (.bool I)))
    (cc : ∀ args V, (callFunc g args).run Tryd.prog V = .ok (.enter g args) V)
    (hk : ∀ v ∈ l, v.k = 0 ∨ v.k = 1 ∨ v.k = 2 ∨ v.k = 3) (hl2 : l.length ≤ 2)
    (cm : ∀ (r : Rq) (B : Option Addr) (n k : Nat), r.s.size ≤ 1000000 → ∀ V, r.op = N → Calls Tryd.prog g #[vQ r (.slice B n k)] V (Bt V (.bool (argB r))))
    (hsl : (setL (oQ N id) 0 l).s.size ≤ 1000000) (hop : (setL (oQ N id) 0 l).op = N)
    (ha0 : argB (setL (oQ N id) 0 l) = false) :
    Calls Tryd.prog 16 #[.agg #[.int .i64 N, .int .i64 id, .slice A n c]] w (DecQ w (fun k => w.heap.size ≤ k) (zQ, 4)) := by
  subst hE hI
  have hNm : IntKind.i64.wrap (N : Int) = N := IntWalk.i64_in _ (by omega)
  replace hk := Lib.hid hk
  go_enter Tryd.func16, Tryd.ntmps16
  go_wp2_with fail
  refine (c1 _).mono ?_
  rintro e w1 ⟨rfl, g1⟩
  have X0 := ((At.new w #[.int .i64 N, .int .i64 id, .slice A n c] 24).alloc (.cells #[.int .i64 0, .int .i64 0, .int .i64 0, .int .i64 0, .int .i64 0, .int .i64 0, .int .i64 0, .int .i64 0, .string ⟨#[]⟩, .slice none 0 0] 36)).gr g1
  have X1 := (At.newAt (w := w.alloc (.cells #[.int .i64 N, .int .i64 id, .slice A n c] 24)) (n := w.heap.size + 1) (by simp) #[.int .i64 0, .int .i64 0, .int .i64 0, .int .i64 0, .int .i64 0, .int .i64 0, .int .i64 0, .int .i64 0, .string ⟨#[]⟩, .slice none 0 0] 36).gr g1
  have G1 : Bl w w1 := (((Bl.refl w).alloc _).alloc _).gr g1
  have X02 := X0.alloc (.cells #[.string M, .string F, .func (.func g) #[] #[]] 97)
  have X12 := X1.alloc (.cells #[.string M, .string F, .func (.func g) #[] #[]] 97)
  have X22 := At.new w1 #[.string M, .string F, .func (.func g) #[] #[]] 97
  have G2 := G1.alloc (.cells #[.string M, .string F, .func (.func g) #[] #[]] 97)
  have mk2 : (w1.alloc (.cells #[.string M, .string F, .func (.func g) #[] #[]] 97)).cell? ⟨w.heap.size, 2, none⟩ = some (.slice A n c) := (X02.cell 2).trans rfl
  go_wp2_with fail
  refine (cu _ G2).mono ?_
  rintro e w2 ⟨A', c', xs, rfl, hY, hall, hlow, g2⟩
  have G3 := G2.trans g2
  have hxl := hall.len
  have hsz := G2.size
  have hz1 : w.heap.size + 2 ≤ w1.heap.size := by have := g1.size; simp at this; omega
  replace hlow : ∀ v ∈ xs, ∀ k, vb v = some k → w.heap.size + 2 ≤ k ∧ k < w2.heap.size := fun v hv k hk => by
    have := hlow v hv k hk
    simp at this
    omega
  have X03 := X02.bl g2
  have X13 := X12.bl g2
  have X23 := X22.bl g2
  clear X0 X1 X02 X12 X22 mk2 G1 hsz
  replace cm := Lib.hid cm
  replace hsl := Lib.hid hsl
  replace hop := Lib.hid hop
  replace ha0 := Lib.hid ha0
  dsimp only at hxl hall
  obtain ⟨nx, hnx⟩ : ∃ nx, nx = xs.length := ⟨_, rfl⟩
  rw [← hnx] at hxl ⊢
  have hnx2 : nx ≤ 2 := by omega
  have hfar : FarY (w2.alloc (.cells #[.int .i64 N, .int .i64 id, .int .i64 0, .int .i64 0, .int .i64 0, .int .i64 0, .int .i64 0, .int .i64 0, .string ⟨#[]⟩, .slice none 0 0] 36)) (some w2.heap.size) xs := fun v hv k hk => by
    have := (hlow v hv k hk).2
    refine ⟨fun e => ?_, by simp; omega⟩
    have e' : w2.heap.size = k := by simpa using e
    omega
  have hYf := hY.far
  have hY3 := hY.bl ((Bl.refl w2).alloc (.cells #[.int .i64 N, .int .i64 id, .int .i64 0, .int .i64 0, .int .i64 0, .int .i64 0, .int .i64 0, .int .i64 0, .string ⟨#[]⟩, .slice none 0 0] 36))
  have hall3 := hall.bl ((Bl.refl w2).alloc (.cells #[.int .i64 N, .int .i64 id, .int .i64 0, .int .i64 0, .int .i64 0, .int .i64 0, .int .i64 0, .int .i64 0, .string ⟨#[]⟩, .slice none 0 0] 36))
  have X04 := X03.alloc (.cells #[.int .i64 N, .int .i64 id, .int .i64 0, .int .i64 0, .int .i64 0, .int .i64 0, .int .i64 0, .int .i64 0, .string ⟨#[]⟩, .slice none 0 0] 36)
  have X14 := X13.alloc (.cells #[.int .i64 N, .int .i64 id, .int .i64 0, .int .i64 0, .int .i64 0, .int .i64 0, .int .i64 0, .int .i64 0, .string ⟨#[]⟩, .slice none 0 0] 36)
  have X24 := X23.alloc (.cells #[.int .i64 N, .int .i64 id, .int .i64 0, .int .i64 0, .int .i64 0, .int .i64 0, .int .i64 0, .int .i64 0, .string ⟨#[]⟩, .slice none 0 0] 36)
  have L0 := X03.lt
  have L1 := X13.lt
  have L2 := X23.lt
  have a0 : w2.cell? ⟨w.heap.size, 0, none⟩ = some (.int .i64 N) := (X03.cell 0).trans rfl
  have a1 : w2.cell? ⟨w.heap.size, 1, none⟩ = some (.int .i64 id) := (X03.cell 1).trans rfl
  replace hlow := Lib.hid hlow
  replace hfar := Lib.hid hfar
  replace hYf := Lib.hid hYf
  replace hY3 := Lib.hid hY3
  replace hall3 := Lib.hid hall3
  replace hnx := Lib.hid hnx
  replace hxl := Lib.hid hxl
  clear X03 X13 X23 hY hall
  have hsz3 := G3.size
  go_wp2
  clear a0 a1
  go_loopw [39] (fun i wr => ∃ k rk dk, k ≤ nx ∧ i = .int .i64 ((k : Nat) : Int) ∧ Hid (rk = setL (oQ N id) 0 (l.take k)) ∧ At wr w2.heap.size (c10 rk dk) 36 ∧ IsQ wr (fun z => w.heap.size + 2 ≤ z ∧ z < w2.heap.size) rk dk ∧ World.grownBy (w2.alloc (.cells #[.int .i64 N, .int .i64 id, .int .i64 0, .int .i64 0, .int .i64 0, .int .i64 0, .int .i64 0, .int .i64 0, .string ⟨#[]⟩, .slice none 0 0] 36)) wr (some w2.heap.size) ∧ Bl w wr) (fun i _ => nx - (intOf i).toNat)
  case atStart => exact ⟨0, oQ N id, .slice none 0 0, Nat.zero_le _, rfl, Lib.hid rfl, At.new w2 _ _, IsQ.bare _ _ _ _, By.refl _ _, G3.alloc _⟩
  case round =>
    obtain ⟨k, rk, dk, hkn, rfl, hrk, hX, hQ, gB, GG⟩ := hrel
    by_cases hlt : k < nx
    · have q1 : (k : Int) < nx := by omega
      obtain ⟨b, off, u, rfl, hu, hcell⟩ := (hY3.out.by gB hYf.out).at (k := k) (by rw [← hnx.out]; exact hlt)
      obtain ⟨a, ha⟩ := list_at (l := l) (k := k) (by rw [← hxl.out]; exact hlt)
      have hIs := (hall3.out.by gB hfar.out).at hu ha
      have hum := List.mem_of_getElem? hu
      have cw := with1 rk k a u dk (fun z => w.heap.size + 2 ≤ z ∧ z < w2.heap.size) wr (hk.out a (List.mem_of_getElem? ha)) hIs hQ (.inr (hlow.out u hum))
      have hnext : setA rk k a = setL (oQ N id) 0 (l.take (k + 1)) := by
        rw [take_snoc1 ha, setL_snoc, ← hrk.out, List.length_take, Nat.min_eq_left (by have := hxl.out; omega), Nat.zero_add]
      obtain ⟨A0, c0, rfl, _⟩ := hQ.sv
      unfold vQ at cw
      obtain ⟨T, x, rfl⟩ := hIs.isIface
      generalize setA rk k a = rk' at *
      generalize rk.d.length = n0 at *
      replace hnext := Lib.hid hnext
      replace cw := Lib.hid cw
      clear hIs hum ha hu hQ
      have k0 : (wr).cell? ⟨w2.heap.size, 0, none⟩ = some (.int .i64 rk.op) := (hX.cell 0).trans rfl
      have f0 : (wr).frozen? ⟨w2.heap.size, 0, none⟩ = false := hX.free 0
      have k1 : (wr).cell? ⟨w2.heap.size, 1, none⟩ = some (.int .i64 rk.id) := (hX.cell 1).trans rfl
      have f1 : (wr).frozen? ⟨w2.heap.size, 1, none⟩ = false := hX.free 1
      have k2 : (wr).cell? ⟨w2.heap.size, 2, none⟩ = some (.int .i64 rk.a) := (hX.cell 2).trans rfl
      have f2 : (wr).frozen? ⟨w2.heap.size, 2, none⟩ = false := hX.free 2
      have k3 : (wr).cell? ⟨w2.heap.size, 3, none⟩ = some (.int .i64 rk.b) := (hX.cell 3).trans rfl
      have f3 : (wr).frozen? ⟨w2.heap.size, 3, none⟩ = false := hX.free 3
      have k4 : (wr).cell? ⟨w2.heap.size, 4, none⟩ = some (.int .i64 rk.x0) := (hX.cell 4).trans rfl
      have f4 : (wr).frozen? ⟨w2.heap.size, 4, none⟩ = false := hX.free 4
      have k5 : (wr).cell? ⟨w2.heap.size, 5, none⟩ = some (.int .i64 rk.y0) := (hX.cell 5).trans rfl
      have f5 : (wr).frozen? ⟨w2.heap.size, 5, none⟩ = false := hX.free 5
      have k6 : (wr).cell? ⟨w2.heap.size, 6, none⟩ = some (.int .i64 rk.x1) := (hX.cell 6).trans rfl
      have f6 : (wr).frozen? ⟨w2.heap.size, 6, none⟩ = false := hX.free 6
      have k7 : (wr).cell? ⟨w2.heap.size, 7, none⟩ = some (.int .i64 rk.y1) := (hX.cell 7).trans rfl
      have f7 : (wr).frozen? ⟨w2.heap.size, 7, none⟩ = false := hX.free 7
      have k8 : (wr).cell? ⟨w2.heap.size, 8, none⟩ = some (.string rk.s) := (hX.cell 8).trans rfl
      have f8 : (wr).frozen? ⟨w2.heap.size, 8, none⟩ = false := hX.free 8
      have k9 : (wr).cell? ⟨w2.heap.size, 9, none⟩ = some (.slice A0 n0 c0) := (hX.cell 9).trans rfl
      have f9 : (wr).frozen? ⟨w2.heap.size, 9, none⟩ = false := hX.free 9
      go_wp2_with fail
      refine cw.out.mono ?_
      rintro e w5 ⟨d', rfl, hQ', g5⟩
      have hX5 := hX.gr g5
      have GG5 := GG.gr g5
      have gB5 := By.trans gB (g5.bl.byr _)
      obtain ⟨A1, c1', rfl, _⟩ := hQ'.sv
      clear k0 f0 k1 f1 k2 f2 k3 f3 k4 f4 k5 f5 k6 f6 k7 f7 k8 f8 k9 f9
      have sk0 : (w5).cell? ⟨w2.heap.size, 0, none⟩ = some (.int .i64 rk.op) := (hX5.cell 0).trans rfl
      have sf0 : (w5).frozen? ⟨w2.heap.size, 0, none⟩ = false := hX5.free 0
      have sk1 : (w5).cell? ⟨w2.heap.size, 1, none⟩ = some (.int .i64 rk.id) := (hX5.cell 1).trans rfl
      have sf1 : (w5).frozen? ⟨w2.heap.size, 1, none⟩ = false := hX5.free 1
      have sk2 : (w5).cell? ⟨w2.heap.size, 2, none⟩ = some (.int .i64 rk.a) := (hX5.cell 2).trans rfl
      have sf2 : (w5).frozen? ⟨w2.heap.size, 2, none⟩ = false := hX5.free 2
      have sk3 : (w5).cell? ⟨w2.heap.size, 3, none⟩ = some (.int .i64 rk.b) := (hX5.cell 3).trans rfl
      have sf3 : (w5).frozen? ⟨w2.heap.size, 3, none⟩ = false := hX5.free 3
      have sk4 : (w5).cell? ⟨w2.heap.size, 4, none⟩ = some (.int .i64 rk.x0) := (hX5.cell 4).trans rfl
      have sf4 : (w5).frozen? ⟨w2.heap.size, 4, none⟩ = false := hX5.free 4
      have sk5 : (w5).cell? ⟨w2.heap.size, 5, none⟩ = some (.int .i64 rk.y0) := (hX5.cell 5).trans rfl
      have sf5 : (w5).frozen? ⟨w2.heap.size, 5, none⟩ = false := hX5.free 5
      have sk6 : (w5).cell? ⟨w2.heap.size, 6, none⟩ = some (.int .i64 rk.x1) := (hX5.cell 6).trans rfl
      have sf6 : (w5).frozen? ⟨w2.heap.size, 6, none⟩ = false := hX5.free 6
      have sk7 : (w5).cell? ⟨w2.heap.size, 7, none⟩ = some (.int .i64 rk.y1) := (hX5.cell 7).trans rfl
      have sf7 : (w5).frozen? ⟨w2.heap.size, 7, none⟩ = false := hX5.free 7
      have sk8 : (w5).cell? ⟨w2.heap.size, 8, none⟩ = some (.string rk.s) := (hX5.cell 8).trans rfl
      have sf8 : (w5).frozen? ⟨w2.heap.size, 8, none⟩ = false := hX5.free 8
      have sk9 : (w5).cell? ⟨w2.heap.size, 9, none⟩ = some (.slice A0 n0 c0) := (hX5.cell 9).trans rfl
      have sf9 : (w5).frozen? ⟨w2.heap.size, 9, none⟩ = false := hX5.free 9
      replace hQ' := Lib.hid hQ'
      have hB5 := put10_by gB5 (.int .i64 rk'.op) (.int .i64 rk'.id) (.int .i64 rk'.a) (.int .i64 rk'.b) (.int .i64 rk'.x0) (.int .i64 rk'.y0) (.int .i64 rk'.x1) (.int .i64 rk'.y1) (.string rk'.s) ((Value.slice A1 rk'.d.length c1'))
      have hX6 := put10_at hX5 (.int .i64 rk'.op) (.int .i64 rk'.id) (.int .i64 rk'.a) (.int .i64 rk'.b) (.int .i64 rk'.x0) (.int .i64 rk'.y0) (.int .i64 rk'.x1) (.int .i64 rk'.y1) (.string rk'.s) ((Value.slice A1 rk'.d.length c1'))
      have GG6 := put10_bl (b := w2.heap.size) GG5 hsz3 (.int .i64 rk'.op) (.int .i64 rk'.id) (.int .i64 rk'.a) (.int .i64 rk'.b) (.int .i64 rk'.x0) (.int .i64 rk'.y0) (.int .i64 rk'.x1) (.int .i64 rk'.y1) (.string rk'.s) ((Value.slice A1 rk'.d.length c1'))
      have hB6 := put10_by (By.refl w5 (some w2.heap.size)) (.int .i64 rk'.op) (.int .i64 rk'.id) (.int .i64 rk'.a) (.int .i64 rk'.b) (.int .i64 rk'.x0) (.int .i64 rk'.y0) (.int .i64 rk'.x1) (.int .i64 rk'.y1) (.string rk'.s) ((Value.slice A1 rk'.d.length c1'))
      have hQ6 := (hQ'.out.bl g5.bl).by hB6 (fun z hz => by have := hz.2; omega)
      replace hQ6 := Lib.hid hQ6
      replace hX6 := Lib.hid hX6
      replace hB5 := Lib.hid hB5
      replace GG6 := Lib.hid GG6
      clear hB6 hQ' gB5 GG5
      go_wp2
      go_roundw
      case rel => exact ⟨k + 1, rk', _, by omega, by go_num, hnext, hX6.out, hQ6.out, hB5.out, GG6.out⟩
      case measure => simp [intOf]; omega
    · have q1 : ¬ (k : Int) < nx := by omega
      have hkn' : k = nx := by omega
      have hrkR : rk = setL (oQ N id) 0 l := by rw [hrk.out, List.take_of_length_le (by rw [← hxl.out]; omega)]
      have Y0 := X04.grown gB (by simp; omega)
      have Y1 := X14.grown gB (by simp; omega)
      have Y2 := X24.grown gB (by simp; omega)
      replace hkn' := Lib.hid hkn'
      clear hY3 hall3 hfar hYf X04 X14 X24
      obtain ⟨A0, c0, rfl, _⟩ := hQ.sv
      have m0 : wr.cell? ⟨w.heap.size, 0, none⟩ = some (.int .i64 N) := (Y0.cell 0).trans rfl
      have m1 : wr.cell? ⟨w.heap.size, 1, none⟩ = some (.int .i64 id) := (Y0.cell 1).trans rfl
      have cg := fun V => cm.out rk A0 rk.d.length c0 (by rw [hrkR]; exact hsl.out) V (by rw [hrkR]; exact hop.out)
      rw [show argB rk = false by rw [hrkR]; exact ha0.out] at cg
      unfold vQ at cg
      replace hrkR := Lib.hid hrkR
      go_wp2_with fail
      refine (ci _).mono ?_
      rintro e w6 ⟨rfl, g6⟩
      have Z0 := Y0.gr g6
      have Z1 := Y1.gr g6
      have Z2 := Y2.gr g6
      have hX6 := hX.gr g6
      have GG6 := GG.gr g6
      clear m0 m1 Y0 Y1 Y2 hX GG
      have z2 : w6.cell? ⟨w1.heap.size, 2, none⟩ = some (.func (.func g) #[] #[]) := (Z2.cell 2).trans rfl
      have rk0 : (w6).cell? ⟨w2.heap.size, 0, none⟩ = some (.int .i64 rk.op) := (hX6.cell 0).trans rfl
      have rf0 : (w6).frozen? ⟨w2.heap.size, 0, none⟩ = false := hX6.free 0
      have rk1 : (w6).cell? ⟨w2.heap.size, 1, none⟩ = some (.int .i64 rk.id) := (hX6.cell 1).trans rfl
      have rf1 : (w6).frozen? ⟨w2.heap.size, 1, none⟩ = false := hX6.free 1
      have rk2 : (w6).cell? ⟨w2.heap.size, 2, none⟩ = some (.int .i64 rk.a) := (hX6.cell 2).trans rfl
      have rf2 : (w6).frozen? ⟨w2.heap.size, 2, none⟩ = false := hX6.free 2
      have rk3 : (w6).cell? ⟨w2.heap.size, 3, none⟩ = some (.int .i64 rk.b) := (hX6.cell 3).trans rfl
      have rf3 : (w6).frozen? ⟨w2.heap.size, 3, none⟩ = false := hX6.free 3
      have rk4 : (w6).cell? ⟨w2.heap.size, 4, none⟩ = some (.int .i64 rk.x0) := (hX6.cell 4).trans rfl
      have rf4 : (w6).frozen? ⟨w2.heap.size, 4, none⟩ = false := hX6.free 4
      have rk5 : (w6).cell? ⟨w2.heap.size, 5, none⟩ = some (.int .i64 rk.y0) := (hX6.cell 5).trans rfl
      have rf5 : (w6).frozen? ⟨w2.heap.size, 5, none⟩ = false := hX6.free 5
      have rk6 : (w6).cell? ⟨w2.heap.size, 6, none⟩ = some (.int .i64 rk.x1) := (hX6.cell 6).trans rfl
      have rf6 : (w6).frozen? ⟨w2.heap.size, 6, none⟩ = false := hX6.free 6
      have rk7 : (w6).cell? ⟨w2.heap.size, 7, none⟩ = some (.int .i64 rk.y1) := (hX6.cell 7).trans rfl
      have rf7 : (w6).frozen? ⟨w2.heap.size, 7, none⟩ = false := hX6.free 7
      have rk8 : (w6).cell? ⟨w2.heap.size, 8, none⟩ = some (.string rk.s) := (hX6.cell 8).trans rfl
      have rf8 : (w6).frozen? ⟨w2.heap.size, 8, none⟩ = false := hX6.free 8
      have rk9 : (w6).cell? ⟨w2.heap.size, 9, none⟩ = some (.slice A0 rk.d.length c0) := (hX6.cell 9).trans rfl
      have rf9 : (w6).frozen? ⟨w2.heap.size, 9, none⟩ = false := hX6.free 9
      go_wp2_with fail
      refine (cg _).mono ?_
      rintro e w7 ⟨rfl, g7⟩
      have U1 := Z1.bl g7
      have GG7 := GG6.trans g7
      clear z2 rk0 rf0 rk1 rf1 rk2 rf2 rk3 rf3 rk4 rf4 rk5 rf5 rk6 rf6 rk7 rf7 rk8 rf8 rk9 rf9
      have k0 : (w7).cell? ⟨w.heap.size + 1, 0, none⟩ = some (.int .i64 0) := (U1.cell 0).trans rfl
      have f0 : (w7).frozen? ⟨w.heap.size + 1, 0, none⟩ = false := U1.free 0
      have k1 : (w7).cell? ⟨w.heap.size + 1, 1, none⟩ = some (.int .i64 0) := (U1.cell 1).trans rfl
      have f1 : (w7).frozen? ⟨w.heap.size + 1, 1, none⟩ = false := U1.free 1
      have k2 : (w7).cell? ⟨w.heap.size + 1, 2, none⟩ = some (.int .i64 0) := (U1.cell 2).trans rfl
      have f2 : (w7).frozen? ⟨w.heap.size + 1, 2, none⟩ = false := U1.free 2
      have k3 : (w7).cell? ⟨w.heap.size + 1, 3, none⟩ = some (.int .i64 0) := (U1.cell 3).trans rfl
      have f3 : (w7).frozen? ⟨w.heap.size + 1, 3, none⟩ = false := U1.free 3
      have k4 : (w7).cell? ⟨w.heap.size + 1, 4, none⟩ = some (.int .i64 0) := (U1.cell 4).trans rfl
      have f4 : (w7).frozen? ⟨w.heap.size + 1, 4, none⟩ = false := U1.free 4
      have k5 : (w7).cell? ⟨w.heap.size + 1, 5, none⟩ = some (.int .i64 0) := (U1.cell 5).trans rfl
      have f5 : (w7).frozen? ⟨w.heap.size + 1, 5, none⟩ = false := U1.free 5
      have k6 : (w7).cell? ⟨w.heap.size + 1, 6, none⟩ = some (.int .i64 0) := (U1.cell 6).trans rfl
      have f6 : (w7).frozen? ⟨w.heap.size + 1, 6, none⟩ = false := U1.free 6
      have k7 : (w7).cell? ⟨w.heap.size + 1, 7, none⟩ = some (.int .i64 0) := (U1.cell 7).trans rfl
      have f7 : (w7).frozen? ⟨w.heap.size + 1, 7, none⟩ = false := U1.free 7
      have k8 : (w7).cell? ⟨w.heap.size + 1, 8, none⟩ = some (.string ⟨#[]⟩) := (U1.cell 8).trans rfl
      have f8 : (w7).frozen? ⟨w.heap.size + 1, 8, none⟩ = false := U1.free 8
      have k9 : (w7).cell? ⟨w.heap.size + 1, 9, none⟩ = some (.slice none 0 0) := (U1.cell 9).trans rfl
      have f9 : (w7).frozen? ⟨w.heap.size + 1, 9, none⟩ = false := U1.free 9
      go_wp2
      clear k0 f0 k1 f1 k2 f2 k3 f3 k4 f4 k5 f5 k6 f6 k7 f7 k8 f8 k9 f9
      have Y := put10_at U1 (.int .i64 0) (.int .i64 0) (.int .i64 0) (.int .i64 0) (.int .i64 0) (.int .i64 0) (.int .i64 0) (.int .i64 0) (.string ⟨#[]⟩) (.slice none 0 0)
      have GY := put10_bl (b := w.heap.size + 1) GG7 (by omega) (.int .i64 0) (.int .i64 0) (.int .i64 0) (.int .i64 0) (.int .i64 0) (.int .i64 0) (.int .i64 0) (.int .i64 0) (.string ⟨#[]⟩) (.slice none 0 0)
      generalize ((((((((((w7.setCell ⟨w.heap.size + 1, 0, none⟩ (.int .i64 0)).setCell ⟨w.heap.size + 1, 1, none⟩ (.int .i64 0)).setCell ⟨w.heap.size + 1, 2, none⟩ (.int .i64 0)).setCell ⟨w.heap.size + 1, 3, none⟩ (.int .i64 0)).setCell ⟨w.heap.size + 1, 4, none⟩ (.int .i64 0)).setCell ⟨w.heap.size + 1, 5, none⟩ (.int .i64 0)).setCell ⟨w.heap.size + 1, 6, none⟩ (.int .i64 0)).setCell ⟨w.heap.size + 1, 7, none⟩ (.int .i64 0)).setCell ⟨w.heap.size + 1, 8, none⟩ (.string ⟨#[]⟩)).setCell ⟨w.heap.size + 1, 9, none⟩ (.slice none 0 0)) = VV at *
      have d0 : VV.cell? ⟨w.heap.size + 1, 0, none⟩ = some (.int .i64 0) := (Y.cell 0).trans rfl
      have d1 : VV.cell? ⟨w.heap.size + 1, 1, none⟩ = some (.int .i64 0) := (Y.cell 1).trans rfl
      have d2 : VV.cell? ⟨w.heap.size + 1, 2, none⟩ = some (.int .i64 0) := (Y.cell 2).trans rfl
      have d3 : VV.cell? ⟨w.heap.size + 1, 3, none⟩ = some (.int .i64 0) := (Y.cell 3).trans rfl
      have d4 : VV.cell? ⟨w.heap.size + 1, 4, none⟩ = some (.int .i64 0) := (Y.cell 4).trans rfl
      have d5 : VV.cell? ⟨w.heap.size + 1, 5, none⟩ = some (.int .i64 0) := (Y.cell 5).trans rfl
      have d6 : VV.cell? ⟨w.heap.size + 1, 6, none⟩ = some (.int .i64 0) := (Y.cell 6).trans rfl
      have d7 : VV.cell? ⟨w.heap.size + 1, 7, none⟩ = some (.int .i64 0) := (Y.cell 7).trans rfl
      have d8 : VV.cell? ⟨w.heap.size + 1, 8, none⟩ = some (.string ⟨#[]⟩) := (Y.cell 8).trans rfl
      have d9 : VV.cell? ⟨w.heap.size + 1, 9, none⟩ = some (.slice none 0 0) := (Y.cell 9).trans rfl
      exact bodyPost_ret (v := .tuple #[.agg #[.int .i64 0, .int .i64 0, .int .i64 0, .int .i64 0, .int .i64 0, .int .i64 0, .int .i64 0, .int .i64 0, .string ⟨#[]⟩, .slice none 0 0], .int .i64 4]) (by simp [results, Tryd.results16, go_sem, d0, d1, d2, d3, d4, d5, d6, d7, d8, d9]) rfl ⟨.slice none 0 0, rfl, IsQ.zero _ _, GY⟩
set_option maxRecDepth 100000 in
set_option maxHeartbeats 2000000 in
theorem dec_ok (N n : Nat) (hN : N < 19) (id : Int) (A : Option Addr) (c : Nat) (w : World) (F M : ByteArray) (g : Nat) (l : List Av) (E : Int) (hE : E = 0) (I : Bool) (hI : I = true)
    (c1 : ∀ V, Calls Tryd.prog 48 #[.int .i64 N] V (Rt V (.tuple #[.agg #[.string M, .string F, .func (.func g) #[] #[]], .bool true])))
    (cu : ∀ V, Bl w V → Calls Tryd.prog 49 #[.string F, .slice A n c] V (UnL V (l, E)))
    (ci : ∀ V, Calls Tryd.prog 51 #[.int .i64 N, .int .i64 id] V (Rt V (.bool I)))
    (cc : ∀ args V, (callFunc g args).run Tryd.prog V = .ok (.enter g args) V)
    (hk : ∀ v ∈ l, v.k = 0 ∨ v.k = 1 ∨ v.k = 2 ∨ v.k = 3) (hl2 : l.length ≤ 2)
    (cm : ∀ (r : Rq) (B : Option Addr) (n k : Nat), r.s.size ≤ 1000000 → ∀ V, r.op = N → Calls Tryd.prog g #[vQ r (.slice B n k)] V (Bt V (.bool (argB r))))
    (hsl : (setL (oQ N id) 0 l).s.size ≤ 1000000) (hop : (setL (oQ N id) 0 l).op = N)
    (ha0 : argB (setL (oQ N id) 0 l) = true) :
    Calls Tryd.prog 16 #[.agg #[.int .i64 N, .int .i64 id, .slice A n c]] w (DecQ w (fun k => w.heap.size ≤ k) (setL (oQ N id) 0 l, 0)) := by
  subst hE hI
  have hNm : IntKind.i64.wrap (N : Int) = N := IntWalk.i64_in _ (by omega)
  replace hk := Lib.hid hk
  go_enter Tryd.func16, Tryd.ntmps16
  go_wp2_with fail
  refine (c1 _).mono ?_
  rintro e w1 ⟨rfl, g1⟩
  have X0 := ((At.new w #[.int .i64 N, .int .i64 id, .slice A n c] 24).alloc (.cells #[.int .i64 0, .int .i64 0, .int .i64 0, .int .i64 0, .int .i64 0, .int .i64 0, .int .i64 0, .int .i64 0, .string ⟨#[]⟩, .slice none 0 0] 36)).gr g1
  have X1 := (At.newAt (w := w.alloc (.cells #[.int .i64 N, .int .i64 id, .slice A n c] 24)) (n := w.heap.size + 1) (by simp) #[.int .i64 0, .int .i64 0, .int .i64 0, .int .i64 0, .int .i64 0, .int .i64 0, .int .i64 0, .int .i64 0, .string ⟨#[]⟩, .slice none 0 0] 36).gr g1
  have G1 : Bl w w1 := (((Bl.refl w).alloc _).alloc _).gr g1
  have X02 := X0.alloc (.cells #[.string M, .string F, .func (.func g) #[] #[]] 97)
  have X12 := X1.alloc (.cells #[.string M, .string F, .func (.func g) #[] #[]] 97)
  have X22 := At.new w1 #[.string M, .string F, .func (.func g) #[] #[]] 97
  have G2 := G1.alloc (.cells #[.string M, .string F, .func (.func g) #[] #[]] 97)
  have mk2 : (w1.alloc (.cells #[.string M, .string F, .func (.func g) #[] #[]] 97)).cell? ⟨w.heap.size, 2, none⟩ = some (.slice A n c) := (X02.cell 2).trans rfl
  go_wp2_with fail
  refine (cu _ G2).mono ?_
  rintro e w2 ⟨A', c', xs, rfl, hY, hall, hlow, g2⟩
  have G3 := G2.trans g2
  have hxl := hall.len
  have hsz := G2.size
  have hz1 : w.heap.size + 2 ≤ w1.heap.size := by have := g1.size; simp at this; omega
  replace hlow : ∀ v ∈ xs, ∀ k, vb v = some k → w.heap.size + 2 ≤ k ∧ k < w2.heap.size := fun v hv k hk => by
    have := hlow v hv k hk
    simp at this
    omega
  have X03 := X02.bl g2
  have X13 := X12.bl g2
  have X23 := X22.bl g2
  clear X0 X1 X02 X12 X22 mk2 G1 hsz
  replace cm := Lib.hid cm
  replace hsl := Lib.hid hsl
  replace hop := Lib.hid hop
  replace ha0 := Lib.hid ha0
  dsimp only at hxl hall
  obtain ⟨nx, hnx⟩ : ∃ nx, nx = xs.length := ⟨_, rfl⟩
  rw [← hnx] at hxl ⊢
  have hnx2 : nx ≤ 2 := by omega
  have hfar : FarY (w2.alloc (.cells #[.int .i64 N, .int .i64 id, .int .i64 0, .int .i64 0, .int .i64 0, .int .i64 0, .int .i64 0, .int .i64 0, .string ⟨#[]⟩, .slice none 0 0] 36)) (some w2.heap.size) xs := fun v hv k hk => by
    have := (hlow v hv k hk).2
    refine ⟨fun e => ?_, by simp; omega⟩
    have e' : w2.heap.size = k := by simpa using e
    omega
  have hYf := hY.far
  have hY3 := hY.bl ((Bl.refl w2).alloc (.cells #[.int .i64 N, .int .i64 id, .int .i64 0, .int .i64 0, .int .i64 0, .int .i64 0, .int .i64 0, .int .i64 0, .string ⟨#[]⟩, .slice none 0 0] 36))
  have hall3 := hall.bl ((Bl.refl w2).alloc (.cells #[.int .i64 N, .int .i64 id, .int .i64 0, .int .i64 0, .int .i64 0, .int .i64 0, .int .i64 0, .int .i64 0, .string ⟨#[]⟩, .slice none 0 0] 36))
  have X04 := X03.alloc (.cells #[.int .i64 N, .int .i64 id, .int .i64 0, .int .i64 0, .int .i64 0, .int .i64 0, .int .i64 0, .int .i64 0, .string ⟨#[]⟩, .slice none 0 0] 36)
  have X14 := X13.alloc (.cells #[.int .i64 N, .int .i64 id, .int .i64 0, .int .i64 0, .int .i64 0, .int .i64 0, .int .i64 0, .int .i64 0, .string ⟨#[]⟩, .slice none 0 0] 36)
  have X24 := X23.alloc (.cells #[.int .i64 N, .int .i64 id, .int .i64 0, .int .i64 0, .int .i64 0, .int .i64 0, .int .i64 0, .int .i64 0, .string ⟨#[]⟩, .slice none 0 0] 36)
  have L0 := X03.lt
  have L1 := X13.lt
  have L2 := X23.lt
  have a0 : w2.cell? ⟨w.heap.size, 0, none⟩ = some (.int .i64 N) := (X03.cell 0).trans rfl
  have a1 : w2.cell? ⟨w.heap.size, 1, none⟩ = some (.int .i64 id) := (X03.cell 1).trans rfl
  replace hlow := Lib.hid hlow
  replace hfar := Lib.hid hfar
  replace hYf := Lib.hid hYf
  replace hY3 := Lib.hid hY3
  replace hall3 := Lib.hid hall3
  replace hnx := Lib.hid hnx
  replace hxl := Lib.hid hxl
  clear X03 X13 X23 hY hall
  have hsz3 := G3.size
  go_wp2
  clear a0 a1
  go_loopw [39] (fun i wr => ∃ k rk dk, k ≤ nx ∧ i = .int .i64 ((k : Nat) : Int) ∧ Hid (rk = setL (oQ N id) 0 (l.take k)) ∧ At wr w2.heap.size (c10 rk dk) 36 ∧ IsQ wr (fun z => w.heap.size + 2 ≤ z ∧ z < w2.heap.size) rk dk ∧ World.grownBy (w2.alloc (.cells #[.int .i64 N, .int .i64 id, .int .i64 0, .int .i64 0, .int .i64 0, .int .i64 0, .int .i64 0, .int .i64 0, .string ⟨#[]⟩, .slice none 0 0] 36)) wr (some w2.heap.size) ∧ Bl w wr) (fun i _ => nx - (intOf i).toNat)
  case atStart => exact ⟨0, oQ N id, .slice none 0 0, Nat.zero_le _, rfl, Lib.hid rfl, At.new w2 _ _, IsQ.bare _ _ _ _, By.refl _ _, G3.alloc _⟩
  case round =>
    obtain ⟨k, rk, dk, hkn, rfl, hrk, hX, hQ, gB, GG⟩ := hrel
    by_cases hlt : k < nx
    · have q1 : (k : Int) < nx := by omega
      obtain ⟨b, off, u, rfl, hu, hcell⟩ := (hY3.out.by gB hYf.out).at (k := k) (by rw [← hnx.out]; exact hlt)
      obtain ⟨a, ha⟩ := list_at (l := l) (k := k) (by rw [← hxl.out]; exact hlt)
      have hIs := (hall3.out.by gB hfar.out).at hu ha
      have hum := List.mem_of_getElem? hu
      have cw := with1 rk k a u dk (fun z => w.heap.size + 2 ≤ z ∧ z < w2.heap.size) wr (hk.out a (List.mem_of_getElem? ha)) hIs hQ (.inr (hlow.out u hum))
      have hnext : setA rk k a = setL (oQ N id) 0 (l.take (k + 1)) := by
        rw [take_snoc1 ha, setL_snoc, ← hrk.out, List.length_take, Nat.min_eq_left (by have := hxl.out; omega), Nat.zero_add]
      obtain ⟨A0, c0, rfl, _⟩ := hQ.sv
      unfold vQ at cw
      obtain ⟨T, x, rfl⟩ := hIs.isIface
      generalize setA rk k a = rk' at *
      generalize rk.d.length = n0 at *
      replace hnext := Lib.hid hnext
      replace cw := Lib.hid cw
      clear hIs hum ha hu hQ
      have k0 : (wr).cell? ⟨w2.heap.size, 0, none⟩ = some (.int .i64 rk.op) := (hX.cell 0).trans rfl
      have f0 : (wr).frozen? ⟨w2.heap.size, 0, none⟩ = false := hX.free 0
      have k1 : (wr).cell? ⟨w2.heap.size, 1, none⟩ = some (.int .i64 rk.id) := (hX.cell 1).trans rfl
      have f1 : (wr).frozen? ⟨w2.heap.size, 1, none⟩ = false := hX.free 1
      have k2 : (wr).cell? ⟨w2.heap.size, 2, none⟩ = some (.int .i64 rk.a) := (hX.cell 2).trans rfl
      have f2 : (wr).frozen? ⟨w2.heap.size, 2, none⟩ = false := hX.free 2
      have k3 : (wr).cell? ⟨w2.heap.size, 3, none⟩ = some (.int .i64 rk.b) := (hX.cell 3).trans rfl
      have f3 : (wr).frozen? ⟨w2.heap.size, 3, none⟩ = false := hX.free 3
      have k4 : (wr).cell? ⟨w2.heap.size, 4, none⟩ = some (.int .i64 rk.x0) := (hX.cell 4).trans rfl
      have f4 : (wr).frozen? ⟨w2.heap.size, 4, none⟩ = false := hX.free 4
      have k5 : (wr).cell? ⟨w2.heap.size, 5, none⟩ = some (.int .i64 rk.y0) := (hX.cell 5).trans rfl
      have f5 : (wr).frozen? ⟨w2.heap.size, 5, none⟩ = false := hX.free 5
      have k6 : (wr).cell? ⟨w2.heap.size, 6, none⟩ = some (.int .i64 rk.x1) := (hX.cell 6).trans rfl
      have f6 : (wr).frozen? ⟨w2.heap.size, 6, none⟩ = false := hX.free 6
      have k7 : (wr).cell? ⟨w2.heap.size, 7, none⟩ = some (.int .i64 rk.y1) := (hX.cell 7).trans rfl
      have f7 : (wr).frozen? ⟨w2.heap.size, 7, none⟩ = false := hX.free 7
      have k8 : (wr).cell? ⟨w2.heap.size, 8, none⟩ = some (.string rk.s) := (hX.cell 8).trans rfl
      have f8 : (wr).frozen? ⟨w2.heap.size, 8, none⟩ = false := hX.free 8
      have k9 : (wr).cell? ⟨w2.heap.size, 9, none⟩ = some (.slice A0 n0 c0) := (hX.cell 9).trans rfl
      have f9 : (wr).frozen? ⟨w2.heap.size, 9, none⟩ = false := hX.free 9
      go_wp2_with fail
      refine cw.out.mono ?_
      rintro e w5 ⟨d', rfl, hQ', g5⟩
      have hX5 := hX.gr g5
      have GG5 := GG.gr g5
      have gB5 := By.trans gB (g5.bl.byr _)
      obtain ⟨A1, c1', rfl, _⟩ := hQ'.sv
      clear k0 f0 k1 f1 k2 f2 k3 f3 k4 f4 k5 f5 k6 f6 k7 f7 k8 f8 k9 f9
      have sk0 : (w5).cell? ⟨w2.heap.size, 0, none⟩ = some (.int .i64 rk.op) := (hX5.cell 0).trans rfl
      have sf0 : (w5).frozen? ⟨w2.heap.size, 0, none⟩ = false := hX5.free 0
      have sk1 : (w5).cell? ⟨w2.heap.size, 1, none⟩ = some (.int .i64 rk.id) := (hX5.cell 1).trans rfl
      have sf1 : (w5).frozen? ⟨w2.heap.size, 1, none⟩ = false := hX5.free 1
      have sk2 : (w5).cell? ⟨w2.heap.size, 2, none⟩ = some (.int .i64 rk.a) := (hX5.cell 2).trans rfl
      have sf2 : (w5).frozen? ⟨w2.heap.size, 2, none⟩ = false := hX5.free 2
      have sk3 : (w5).cell? ⟨w2.heap.size, 3, none⟩ = some (.int .i64 rk.b) := (hX5.cell 3).trans rfl
      have sf3 : (w5).frozen? ⟨w2.heap.size, 3, none⟩ = false := hX5.free 3
      have sk4 : (w5).cell? ⟨w2.heap.size, 4, none⟩ = some (.int .i64 rk.x0) := (hX5.cell 4).trans rfl
      have sf4 : (w5).frozen? ⟨w2.heap.size, 4, none⟩ = false := hX5.free 4
      have sk5 : (w5).cell? ⟨w2.heap.size, 5, none⟩ = some (.int .i64 rk.y0) := (hX5.cell 5).trans rfl
      have sf5 : (w5).frozen? ⟨w2.heap.size, 5, none⟩ = false := hX5.free 5
      have sk6 : (w5).cell? ⟨w2.heap.size, 6, none⟩ = some (.int .i64 rk.x1) := (hX5.cell 6).trans rfl
      have sf6 : (w5).frozen? ⟨w2.heap.size, 6, none⟩ = false := hX5.free 6
      have sk7 : (w5).cell? ⟨w2.heap.size, 7, none⟩ = some (.int .i64 rk.y1) := (hX5.cell 7).trans rfl
      have sf7 : (w5).frozen? ⟨w2.heap.size, 7, none⟩ = false := hX5.free 7
      have sk8 : (w5).cell? ⟨w2.heap.size, 8, none⟩ = some (.string rk.s) := (hX5.cell 8).trans rfl
      have sf8 : (w5).frozen? ⟨w2.heap.size, 8, none⟩ = false := hX5.free 8
      have sk9 : (w5).cell? ⟨w2.heap.size, 9, none⟩ = some (.slice A0 n0 c0) := (hX5.cell 9).trans rfl
      have sf9 : (w5).frozen? ⟨w2.heap.size, 9, none⟩ = false := hX5.free 9
      replace hQ' := Lib.hid hQ'
      have hB5 := put10_by gB5 (.int .i64 rk'.op) (.int .i64 rk'.id) (.int .i64 rk'.a) (.int .i64 rk'.b) (.int .i64 rk'.x0) (.int .i64 rk'.y0) (.int .i64 rk'.x1) (.int .i64 rk'.y1) (.string rk'.s) ((Value.slice A1 rk'.d.length c1'))
      have hX6 := put10_at hX5 (.int .i64 rk'.op) (.int .i64 rk'.id) (.int .i64 rk'.a) (.int .i64 rk'.b) (.int .i64 rk'.x0) (.int .i64 rk'.y0) (.int .i64 rk'.x1) (.int .i64 rk'.y1) (.string rk'.s) ((Value.slice A1 rk'.d.length c1'))
      have GG6 := put10_bl (b := w2.heap.size) GG5 hsz3 (.int .i64 rk'.op) (.int .i64 rk'.id) (.int .i64 rk'.a) (.int .i64 rk'.b) (.int .i64 rk'.x0) (.int .i64 rk'.y0) (.int .i64 rk'.x1) (.int .i64 rk'.y1) (.string rk'.s) ((Value.slice A1 rk'.d.length c1'))
      have hB6 := put10_by (By.refl w5 (some w2.heap.size)) (.int .i64 rk'.op) (.int .i64 rk'.id) (.int .i64 rk'.a) (.int .i64 rk'.b) (.int .i64 rk'.x0) (.int .i64 rk'.y0) (.int .i64 rk'.x1) (.int .i64 rk'.y1) (.string rk'.s) ((Value.slice A1 rk'.d.length c1'))
      have hQ6 := (hQ'.out.bl g5.bl).by hB6 (fun z hz => by have := hz.2; omega)
      replace hQ6 := Lib.hid hQ6
      replace hX6 := Lib.hid hX6
      replace hB5 := Lib.hid hB5
      replace GG6 := Lib.hid GG6
      clear hB6 hQ' gB5 GG5
      go_wp2
      go_roundw
      case rel => exact ⟨k + 1, rk', _, by omega, by go_num, hnext, hX6.out, hQ6.out, hB5.out, GG6.out⟩
      case measure => simp [intOf]; omega
    · have q1 : ¬ (k : Int) < nx := by omega
      have hkn' : k = nx := by omega
      have hrkR : rk = setL (oQ N id) 0 l := by rw [hrk.out, List.take_of_length_le (by rw [← hxl.out]; omega)]
      have Y0 := X04.grown gB (by simp; omega)
      have Y1 := X14.grown gB (by simp; omega)
      have Y2 := X24.grown gB (by simp; omega)
      replace hkn' := Lib.hid hkn'
      clear hY3 hall3 hfar hYf X04 X14 X24
      obtain ⟨A0, c0, rfl, _⟩ := hQ.sv
      have m0 : wr.cell? ⟨w.heap.size, 0, none⟩ = some (.int .i64 N) := (Y0.cell 0).trans rfl
      have m1 : wr.cell? ⟨w.heap.size, 1, none⟩ = some (.int .i64 id) := (Y0.cell 1).trans rfl
      have cg := fun V => cm.out rk A0 rk.d.length c0 (by rw [hrkR]; exact hsl.out) V (by rw [hrkR]; exact hop.out)
      rw [show argB rk = true by rw [hrkR]; exact ha0.out] at cg
      unfold vQ at cg
      replace hrkR := Lib.hid hrkR
      go_wp2_with fail
      refine (ci _).mono ?_
      rintro e w6 ⟨rfl, g6⟩
      have Z0 := Y0.gr g6
      have Z1 := Y1.gr g6
      have Z2 := Y2.gr g6
      have hX6 := hX.gr g6
      have GG6 := GG.gr g6
      clear m0 m1 Y0 Y1 Y2 hX GG
      have z2 : w6.cell? ⟨w1.heap.size, 2, none⟩ = some (.func (.func g) #[] #[]) := (Z2.cell 2).trans rfl
      have rk0 : (w6).cell? ⟨w2.heap.size, 0, none⟩ = some (.int .i64 rk.op) := (hX6.cell 0).trans rfl
      have rf0 : (w6).frozen? ⟨w2.heap.size, 0, none⟩ = false := hX6.free 0
      have rk1 : (w6).cell? ⟨w2.heap.size, 1, none⟩ = some (.int .i64 rk.id) := (hX6.cell 1).trans rfl
      have rf1 : (w6).frozen? ⟨w2.heap.size, 1, none⟩ = false := hX6.free 1
      have rk2 : (w6).cell? ⟨w2.heap.size, 2, none⟩ = some (.int .i64 rk.a) := (hX6.cell 2).trans rfl
      have rf2 : (w6).frozen? ⟨w2.heap.size, 2, none⟩ = false := hX6.free 2
      have rk3 : (w6).cell? ⟨w2.heap.size, 3, none⟩ = some (.int .i64 rk.b) := (hX6.cell 3).trans rfl
      have rf3 : (w6).frozen? ⟨w2.heap.size, 3, none⟩ = false := hX6.free 3
      have rk4 : (w6).cell? ⟨w2.heap.size, 4, none⟩ = some (.int .i64 rk.x0) := (hX6.cell 4).trans rfl
      have rf4 : (w6).frozen? ⟨w2.heap.size, 4, none⟩ = false := hX6.free 4
      have rk5 : (w6).cell? ⟨w2.heap.size, 5, none⟩ = some (.int .i64 rk.y0) := (hX6.cell 5).trans rfl
      have rf5 : (w6).frozen? ⟨w2.heap.size, 5, none⟩ = false := hX6.free 5
      have rk6 : (w6).cell? ⟨w2.heap.size, 6, none⟩ = some (.int .i64 rk.x1) := (hX6.cell 6).trans rfl
      have rf6 : (w6).frozen? ⟨w2.heap.size, 6, none⟩ = false := hX6.free 6
      have rk7 : (w6).cell? ⟨w2.heap.size, 7, none⟩ = some (.int .i64 rk.y1) := (hX6.cell 7).trans rfl
      have rf7 : (w6).frozen? ⟨w2.heap.size, 7, none⟩ = false := hX6.free 7
      have rk8 : (w6).cell? ⟨w2.heap.size, 8, none⟩ = some (.string rk.s) := (hX6.cell 8).trans rfl
      have rf8 : (w6).frozen? ⟨w2.heap.size, 8, none⟩ = false := hX6.free 8
      have rk9 : (w6).cell? ⟨w2.heap.size, 9, none⟩ = some (.slice A0 rk.d.length c0) := (hX6.cell 9).trans rfl
      have rf9 : (w6).frozen? ⟨w2.heap.size, 9, none⟩ = false := hX6.free 9
      go_wp2_with fail
      refine (cg _).mono ?_
      rintro e w7 ⟨rfl, g7⟩
      have U1 := Z1.bl g7
      have GG7 := GG6.trans g7
      clear z2 rk0 rf0 rk1 rf1 rk2 rf2 rk3 rf3 rk4 rf4 rk5 rf5 rk6 rf6 rk7 rf7 rk8 rf8 rk9 rf9
      have hX7 := hX6.bl g7
      have k0 : (w7).cell? ⟨w.heap.size + 1, 0, none⟩ = some (.int .i64 0) := (U1.cell 0).trans rfl
      have f0 : (w7).frozen? ⟨w.heap.size + 1, 0, none⟩ = false := U1.free 0
      have k1 : (w7).cell? ⟨w.heap.size + 1, 1, none⟩ = some (.int .i64 0) := (U1.cell 1).trans rfl
      have f1 : (w7).frozen? ⟨w.heap.size + 1, 1, none⟩ = false := U1.free 1
      have k2 : (w7).cell? ⟨w.heap.size + 1, 2, none⟩ = some (.int .i64 0) := (U1.cell 2).trans rfl
      have f2 : (w7).frozen? ⟨w.heap.size + 1, 2, none⟩ = false := U1.free 2
      have k3 : (w7).cell? ⟨w.heap.size + 1, 3, none⟩ = some (.int .i64 0) := (U1.cell 3).trans rfl
      have f3 : (w7).frozen? ⟨w.heap.size + 1, 3, none⟩ = false := U1.free 3
      have k4 : (w7).cell? ⟨w.heap.size + 1, 4, none⟩ = some (.int .i64 0) := (U1.cell 4).trans rfl
      have f4 : (w7).frozen? ⟨w.heap.size + 1, 4, none⟩ = false := U1.free 4
      have k5 : (w7).cell? ⟨w.heap.size + 1, 5, none⟩ = some (.int .i64 0) := (U1.cell 5).trans rfl
      have f5 : (w7).frozen? ⟨w.heap.size + 1, 5, none⟩ = false := U1.free 5
      have k6 : (w7).cell? ⟨w.heap.size + 1, 6, none⟩ = some (.int .i64 0) := (U1.cell 6).trans rfl
      have f6 : (w7).frozen? ⟨w.heap.size + 1, 6, none⟩ = false := U1.free 6
      have k7 : (w7).cell? ⟨w.heap.size + 1, 7, none⟩ = some (.int .i64 0) := (U1.cell 7).trans rfl
      have f7 : (w7).frozen? ⟨w.heap.size + 1, 7, none⟩ = false := U1.free 7
      have k8 : (w7).cell? ⟨w.heap.size + 1, 8, none⟩ = some (.string ⟨#[]⟩) := (U1.cell 8).trans rfl
      have f8 : (w7).frozen? ⟨w.heap.size + 1, 8, none⟩ = false := U1.free 8
      have k9 : (w7).cell? ⟨w.heap.size + 1, 9, none⟩ = some (.slice none 0 0) := (U1.cell 9).trans rfl
      have f9 : (w7).frozen? ⟨w.heap.size + 1, 9, none⟩ = false := U1.free 9
      have rk0 : (w7).cell? ⟨w2.heap.size, 0, none⟩ = some (.int .i64 rk.op) := (hX7.cell 0).trans rfl
      have rf0 : (w7).frozen? ⟨w2.heap.size, 0, none⟩ = false := hX7.free 0
      have rk1 : (w7).cell? ⟨w2.heap.size, 1, none⟩ = some (.int .i64 rk.id) := (hX7.cell 1).trans rfl
      have rf1 : (w7).frozen? ⟨w2.heap.size, 1, none⟩ = false := hX7.free 1
      have rk2 : (w7).cell? ⟨w2.heap.size, 2, none⟩ = some (.int .i64 rk.a) := (hX7.cell 2).trans rfl
      have rf2 : (w7).frozen? ⟨w2.heap.size, 2, none⟩ = false := hX7.free 2
      have rk3 : (w7).cell? ⟨w2.heap.size, 3, none⟩ = some (.int .i64 rk.b) := (hX7.cell 3).trans rfl
      have rf3 : (w7).frozen? ⟨w2.heap.size, 3, none⟩ = false := hX7.free 3
      have rk4 : (w7).cell? ⟨w2.heap.size, 4, none⟩ = some (.int .i64 rk.x0) := (hX7.cell 4).trans rfl
      have rf4 : (w7).frozen? ⟨w2.heap.size, 4, none⟩ = false := hX7.free 4
      have rk5 : (w7).cell? ⟨w2.heap.size, 5, none⟩ = some (.int .i64 rk.y0) := (hX7.cell 5).trans rfl
      have rf5 : (w7).frozen? ⟨w2.heap.size, 5, none⟩ = false := hX7.free 5
      have rk6 : (w7).cell? ⟨w2.heap.size, 6, none⟩ = some (.int .i64 rk.x1) := (hX7.cell 6).trans rfl
      have rf6 : (w7).frozen? ⟨w2.heap.size, 6, none⟩ = false := hX7.free 6
      have rk7 : (w7).cell? ⟨w2.heap.size, 7, none⟩ = some (.int .i64 rk.y1) := (hX7.cell 7).trans rfl
      have rf7 : (w7).frozen? ⟨w2.heap.size, 7, none⟩ = false := hX7.free 7
      have rk8 : (w7).cell? ⟨w2.heap.size, 8, none⟩ = some (.string rk.s) := (hX7.cell 8).trans rfl
      have rf8 : (w7).frozen? ⟨w2.heap.size, 8, none⟩ = false := hX7.free 8
      have rk9 : (w7).cell? ⟨w2.heap.size, 9, none⟩ = some (.slice A0 rk.d.length c0) := (hX7.cell 9).trans rfl
      have rf9 : (w7).frozen? ⟨w2.heap.size, 9, none⟩ = false := hX7.free 9
      go_wp2
      clear k0 f0 k1 f1 k2 f2 k3 f3 k4 f4 k5 f5 k6 f6 k7 f7 k8 f8 k9 f9 rk0 rf0 rk1 rf1 rk2 rf2 rk3 rf3 rk4 rf4 rk5 rf5 rk6 rf6 rk7 rf7 rk8 rf8 rk9 rf9
      have hBy := put10_by (b := w.heap.size + 1) (By.refl w7 _) (.int .i64 rk.op) (.int .i64 rk.id) (.int .i64 rk.a) (.int .i64 rk.b) (.int .i64 rk.x0) (.int .i64 rk.y0) (.int .i64 rk.x1) (.int .i64 rk.y1) (.string rk.s) (.slice A0 rk.d.length c0)
      have hQ7 := ((hQ.bl g6.bl).bl g7).by hBy (fun z hz => by have := hz.1; omega)
      replace hQ7 := Lib.hid hQ7
      clear hBy
      have Y := put10_at U1 (.int .i64 rk.op) (.int .i64 rk.id) (.int .i64 rk.a) (.int .i64 rk.b) (.int .i64 rk.x0) (.int .i64 rk.y0) (.int .i64 rk.x1) (.int .i64 rk.y1) (.string rk.s) (.slice A0 rk.d.length c0)
      have GY := put10_bl (b := w.heap.size + 1) GG7 (by omega) (.int .i64 rk.op) (.int .i64 rk.id) (.int .i64 rk.a) (.int .i64 rk.b) (.int .i64 rk.x0) (.int .i64 rk.y0) (.int .i64 rk.x1) (.int .i64 rk.y1) (.string rk.s) (.slice A0 rk.d.length c0)
      generalize ((((((((((w7.setCell ⟨w.heap.size + 1, 0, none⟩ (.int .i64 rk.op)).setCell ⟨w.heap.size + 1, 1, none⟩ (.int .i64 rk.id)).setCell ⟨w.heap.size + 1, 2, none⟩ (.int .i64 rk.a)).setCell ⟨w.heap.size + 1, 3, none⟩ (.int .i64 rk.b)).setCell ⟨w.heap.size + 1, 4, none⟩ (.int .i64 rk.x0)).setCell ⟨w.heap.size + 1, 5, none⟩ (.int .i64 rk.y0)).setCell ⟨w.heap.size + 1, 6, none⟩ (.int .i64 rk.x1)).setCell ⟨w.heap.size + 1, 7, none⟩ (.int .i64 rk.y1)).setCell ⟨w.heap.size + 1, 8, none⟩ (.string rk.s)).setCell ⟨w.heap.size + 1, 9, none⟩ (.slice A0 rk.d.length c0)) = VV at *
      have d0 : VV.cell? ⟨w.heap.size + 1, 0, none⟩ = some (.int .i64 rk.op) := (Y.cell 0).trans rfl
      have d1 : VV.cell? ⟨w.heap.size + 1, 1, none⟩ = some (.int .i64 rk.id) := (Y.cell 1).trans rfl
      have d2 : VV.cell? ⟨w.heap.size + 1, 2, none⟩ = some (.int .i64 rk.a) := (Y.cell 2).trans rfl
      have d3 : VV.cell? ⟨w.heap.size + 1, 3, none⟩ = some (.int .i64 rk.b) := (Y.cell 3).trans rfl
      have d4 : VV.cell? ⟨w.heap.size + 1, 4, none⟩ = some (.int .i64 rk.x0) := (Y.cell 4).trans rfl
      have d5 : VV.cell? ⟨w.heap.size + 1, 5, none⟩ = some (.int .i64 rk.y0) := (Y.cell 5).trans rfl
      have d6 : VV.cell? ⟨w.heap.size + 1, 6, none⟩ = some (.int .i64 rk.x1) := (Y.cell 6).trans rfl
      have d7 : VV.cell? ⟨w.heap.size + 1, 7, none⟩ = some (.int .i64 rk.y1) := (Y.cell 7).trans rfl
      have d8 : VV.cell? ⟨w.heap.size + 1, 8, none⟩ = some (.string rk.s) := (Y.cell 8).trans rfl
      have d9 : VV.cell? ⟨w.heap.size + 1, 9, none⟩ = some (.slice A0 rk.d.length c0) := (Y.cell 9).trans rfl
      exact bodyPost_ret (v := .tuple #[.agg #[.int .i64 rk.op, .int .i64 rk.id, .int .i64 rk.a, .int .i64 rk.b, .int .i64 rk.x0, .int .i64 rk.y0, .int .i64 rk.x1, .int .i64 rk.y1, .string rk.s, .slice A0 rk.d.length c0], .int .i64 0]) (by simp [results, Tryd.results16, go_sem, d0, d1, d2, d3, d4, d5, d6, d7, d8, d9]) rfl (by rw [← hrkR.out]; exact ⟨.slice A0 rk.d.length c0, rfl, hQ7.out.weak (fun z hz => by have := hz.1; omega), GY⟩)
set_option maxRecDepth 100000 in
set_option maxHeartbeats 2000000 in
theorem dec1 (m : Ms) (A : Option Addr) (c : Nat) (w : World) (hA : RwB w A m.body) (hn : A = none → c = 0) (hle : m.body.length ≤ c) (hcm : c ≤ maxLen) (hb : ByL m.body) (hl : m.body.length ≤ 1000000) :
    Calls Tryd.prog 16 #[.agg #[.int .i64 m.op, .int .i64 m.id, .slice A m.body.length c]] w (DecQ w (fun k => w.heap.size ≤ k) (decR m)) := by
  by_cases ho : 0 ≤ m.op ∧ m.op ≤ 18
  case neg => exact dec0 m A c w ho
  obtain ⟨op, id, L⟩ := m
  dsimp only at *
  obtain ⟨N, rfl⟩ : ∃ N : Nat, op = N := ⟨op.toNat, by omega⟩
  have hN : N < 19 := by omega
  have e : decR ⟨N, id, L⟩ = decU N id (unR (fmL N) L) := by
    unfold decR
    rw [if_pos ho]; rfl
  rw [e]
  clear e
  have c1 := fun V => find1 N hN V
  have cu := fun V (g : Bl w V) => aunpackL1 (fmS N) A c L V (by have := (fmL_ok hN).2.2.1; show (fmL N).length ≤ 1000; omega) (hA.bl g) hb hl hn hle hcm
  rw [fmS_list] at cu
  have hk := unR_kind (fmL N) L
  have hul := unR_len (fmL N) L
  have hu2 : (unR (fmL N) L).1.length ≤ 2 := by have := (fmL_ok hN).2.2.1; omega
  have hus := unR_s (fmL N) L 1000000 hl
  have cm := fun (r : Rq) (B : Option Addr) (n k : Nat) (hs : r.s.size ≤ 1000000) (V : World) (h : r.op = N) => may_any r B n k hs V N hN h
  have cc := fun args V => call_may args V N hN
  have ci := fun V => mayId1 N id V
  generalize unR (fmL N) L = u at *
  generalize fmS N = F at *
  generalize nmS N = M at *
  generalize mayF N = g at *
  generalize L.length = n at *
  obtain ⟨l, E⟩ := u
  dsimp only at *
  have hsl : (setL (oQ N id) 0 l).s.size ≤ 1000000 := setL_s l _ _ _ (by simp [oQ, ByteArray.size]) hus
  have hid := setL_id l (oQ N id) 0
  have hm : mayQ (setL (oQ N id) 0 l) = (idB N id && argB (setL (oQ N id) 0 l)) := by unfold mayQ; rw [hid.1, hid.2]; rfl
  unfold decU
  dsimp only
  by_cases hE : E = 0
  case neg =>
    rw [if_neg hE]
    exact dec_short N n hN id A c w F M g l E hE _ c1 cu ci cc hk hu2
  rw [if_pos hE, hm]
  cases hi : idB N id with
  | false =>
    rw [if_neg (by simp)]
    exact dec_id N n hN id A c w F M g l E hE _ hi c1 cu ci cc hk hu2
  | true =>
    cases ha : argB (setL (oQ N id) 0 l) with
    | false =>
      rw [if_neg (by simp)]
      exact dec_arg N n hN id A c w F M g l E hE _ hi c1 cu ci cc hk hu2 cm hsl hid.1 ha
    | true =>
      rw [if_pos (show (true && true) = true from rfl)]
      exact dec_ok N n hN id A c w F M g l E hE _ hi c1 cu ci cc hk hu2 cm hsl hid.1 ha

end Go.Proofs.YthkbenhlhldglaaDoor
