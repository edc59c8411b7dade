/-
  What is proved: what Decode of the document hands back of any message. No conditions but bounds.
-/
import Derived.Test.YthkbenhlhldglaaDoorZi
import Derived.Test.YthkbenhlhldglaaDoorZd
import Derived.Test.YthkbenhlhldglaaDoorUn
namespace Go.Proofs.YthkbenhlhldglaaDoor
open Go.RowKit Go.Sort

theorem Vv.by {w w' : World} {A : Option Addr} {L : List (Av × Value)} (h : Vv w A L) {row : Option Nat} (g : w.grownBy w' row) (hf : L = [] ∨ A.map (·.block) ≠ row) (hs : ∀ p ∈ L, Sv w' p.2 p.1.b) : Vv w' A L := by
  refine ⟨?_, hs⟩
  rcases h.1 with h | ⟨b, off, h1, h2⟩
  · exact .inl h
  · rcases hf with hf | hf
    · exact .inl hf
    · refine .inr ⟨b, off, h1, fun k r hk j u hj => ?_⟩
      have hc := h2 k r hk j u hj
      have hlt := World.block_lt_of_cell? _ _ hc
      have hb := g.block b hlt (by rw [h1] at hf; exact hf)
      unfold World.cell? at hc ⊢
      rw [hb]; exact hc
theorem Vv.far {w : World} {A : Option Addr} {L : List (Av × Value)} (h : Vv w A L) : L = [] ∨ A.map (·.block) ≠ some w.heap.size := by
  rcases h.1 with h | ⟨b, off, rfl, hr⟩
  · exact .inl h
  · cases L with
    | nil => exact .inl rfl
    | cons u L =>
      right
      have hlt := World.block_lt_of_cell? _ _ (hr 0 u rfl 0 _ rfl)
      intro e
      have e' : b = w.heap.size := by simpa using e
      rw [e'] at hlt
      exact Nat.lt_irrefl _ hlt
set_option maxRecDepth 100000 in
set_option maxHeartbeats 2000000 in
theorem rdec0 (m : Ms) (A : Option Addr) (c : Nat) (w : World) (ho : ¬ (0 ≤ m.op ∧ m.op ≤ 18)) :
    Calls Tryd.prog 17 #[.agg #[.int .i64 m.op, .int .i64 m.id, .slice A m.body.length c]] w (DecQ w (fun k => A.map (·.block) = some k) (decR m)) := by
  obtain ⟨op, id, L⟩ := m
  dsimp only at *
  have e : decR ⟨op, id, L⟩ = (zQ, 12) := by unfold decR; rw [if_neg ho]
  rw [e]
  generalize L.length = n at *
  have h' : op < 0 ∨ ¬ op < 0 ∧ 18 < op := by omega
  clear ho e
  rcases h' with h | ⟨h, h'⟩
  all_goals
    go_enter Tryd.func17, Tryd.ntmps17
    go_wp2
    refine bodyPost_ret (v := .tuple #[.agg #[.int .i64 0, .int .i64 0, .int .i64 0, .int .i64 0, .int .i64 0, .int .i64 0, .int .i64 0, .int .i64 0, .string ⟨#[]⟩, .slice none 0 0], .int .i64 12]) (by simp [results, Tryd.results17, go_sem]) rfl ⟨.slice none 0 0, rfl, IsQ.zero _ _, ?_⟩
    exact ((Bl.refl w).alloc _).alloc _
set_option maxRecDepth 100000 in
set_option maxHeartbeats 2000000 in
theorem rdec_short (N n : Nat) (hN : N < 19) (id : Int) (A : Option Addr) (c : Nat) (w : World) (F : ByteArray) (l : List Av) (E : Int) (hE : ¬ E = 0)
    (cf : ∀ V, Calls Tryd.prog 41 #[] V (fun e w' => e = .returned (.slice (some ⟨V.heap.size, 0, none⟩) 19 19) ∧ w'.cell? ⟨V.heap.size, N, none⟩ = some (.string F) ∧ Gr V w'))
    (cu : ∀ V, Bl w V → Calls Tryd.prog 52 #[.string F, .slice A n c] V (RuL V A (l, E)))
    (hk : ∀ v ∈ l, v.k = 0 ∨ v.k = 1 ∨ v.k = 2 ∨ v.k = 3) (_hl2 : l.length ≤ 2) (hAb : ∀ z, A.map (·.block) = some z → z < w.heap.size ∨ ∀ v ∈ l, v.b = []) :
    Calls Tryd.prog 17 #[.agg #[.int .i64 N, .int .i64 id, .slice A n c]] w (DecQ w (fun k => A.map (·.block) = some k) (zQ, E)) := by
  have hNm : IntKind.i64.wrap (N : Int) = N := IntWalk.i64_in _ (by omega)
  replace hk := Lib.hid hk
  replace hAb := Lib.hid hAb
  have q0 : ¬ (N : Int) < 0 := by omega
  have q18 : ¬ 18 < (N : Int) := by omega
  have q19 : (N : Int) < 19 := by omega
  have X0 := (At.new w #[.int .i64 N, .int .i64 id, .slice A n c] 24).alloc (.cells #[.int .i64 0, .int .i64 0, .int .i64 0, .int .i64 0, .int .i64 0, .int .i64 0, .int .i64 0, .int .i64 0, .string ⟨#[]⟩, .slice none 0 0] 28)
  have X1 := At.newAt (w := w.alloc (.cells #[.int .i64 N, .int .i64 id, .slice A n c] 24)) (n := w.heap.size + 1) (by simp) #[.int .i64 0, .int .i64 0, .int .i64 0, .int .i64 0, .int .i64 0, .int .i64 0, .int .i64 0, .int .i64 0, .string ⟨#[]⟩, .slice none 0 0] 28
  have G0 : Bl w ((w.alloc (.cells #[.int .i64 N, .int .i64 id, .slice A n c] 24)).alloc (.cells #[.int .i64 0, .int .i64 0, .int .i64 0, .int .i64 0, .int .i64 0, .int .i64 0, .int .i64 0, .int .i64 0, .string ⟨#[]⟩, .slice none 0 0] 28)) := ((Bl.refl w).alloc _).alloc _
  have hz0 : w.heap.size + 2 ≤ ((w.alloc (.cells #[.int .i64 N, .int .i64 id, .slice A n c] 24)).alloc (.cells #[.int .i64 0, .int .i64 0, .int .i64 0, .int .i64 0, .int .i64 0, .int .i64 0, .int .i64 0, .int .i64 0, .string ⟨#[]⟩, .slice none 0 0] 28)).heap.size := by simp
  go_enter Tryd.func17, Tryd.ntmps17
  go_wp2
  generalize ((w.alloc (.cells #[.int .i64 N, .int .i64 id, .slice A n c] 24)).alloc (.cells #[.int .i64 0, .int .i64 0, .int .i64 0, .int .i64 0, .int .i64 0, .int .i64 0, .int .i64 0, .int .i64 0, .string ⟨#[]⟩, .slice none 0 0] 28)) = w0 at *
  have SK : ∀ V, Bl w0 V → V.cell? ⟨w.heap.size, 0, none⟩ = some (.int .i64 N) ∧ V.cell? ⟨w.heap.size, 2, none⟩ = some (.slice A n c) ∧ Bl w0 V := fun V g => ⟨((X0.bl g).cell 0).trans rfl, ((X0.bl g).cell 2).trans rfl, g⟩
  replace SK := Lib.hid SK
  refine wp_region_held_drew (S := fun V => V.cell? ⟨w.heap.size, 0, none⟩ = some (.int .i64 N) ∧ V.cell? ⟨w.heap.size, 2, none⟩ = some (.slice A n c) ∧ Bl w0 V) (by kernel_rfl) (SK.out _ (Bl.refl w0).drew) (fun hHeld => ?_)
  refine wpAnyH_take (i := 1) (v := ?_) rfl (by kernel_rfl) (by kernel_rfl) (by kernel_rfl) (fun _ _ _ h => h) (Or.inl ⟨by rfl, ?hy1⟩) (by assumption) ?rest1
  case hy1 => intro w' hSw; (try dsimp only at hSw); go_simp; (try with_reducible rfl)
  simp only [Act.put, List.setIfInBounds_toArray]
  refine wpAnyH_take (i := 2) (v := ?_) rfl (by kernel_rfl) (by kernel_rfl) (by kernel_rfl) (fun _ _ _ h => h) (Or.inl ⟨by rfl, ?hy2⟩) (by assumption) ?rest2
  case hy2 => intro w' hSw; (try dsimp only at hSw); go_simp; (try with_reducible rfl)
  simp only [Act.put]
  refine wpAnyH_take (i := 5) (v := ?_) rfl (by kernel_rfl) (by kernel_rfl) (by kernel_rfl) (fun _ _ _ h => h) (Or.inl ⟨by rfl, ?hy5⟩) (by assumption) ?rest5
  case hy5 => intro w' hSw; (try dsimp only at hSw); go_simp; (try with_reducible rfl)
  simp only [Act.put]
  refine wpAnyH_take (i := 6) (v := ?_) rfl (by kernel_rfl) (by kernel_rfl) (by kernel_rfl) (fun _ _ _ h => h) (Or.inl ⟨by rfl, ?hy6⟩) (by assumption) ?rest6
  case hy6 => intro w' hSw; (try dsimp only at hSw); go_simp; (try with_reducible rfl)
  simp only [Act.put]
  refine wpAnyH_ready (rs := [0]) (by kernel_rfl) (by simp) (AllReadyH.cons rfl (fun K9 hK9 => ?_) AllReadyH.nil)
  go_simp
  refine (cf _).mono ?_
  rintro e V8 ⟨rfl, hF8, g8⟩
  have hF9 : V8.cell? ⟨w0.heap.size, N, none⟩ = some (.string F) := hF8
  have G8 : Bl w0 V8 := (Bl.refl w0).drew.gr g8
  have hS1 := SK.out V8 G8
  dsimp only
  refine hK9.out _ _ (hS1) (fun _ => ?_)
  clear hK9 K9
  try simp only [Act.put]
  refine wpAnyH_take (i := 3) (v := ?_) rfl (by kernel_rfl) (by kernel_rfl) (by kernel_rfl) (fun _ _ _ h => h) (Or.inl ⟨by rfl, ?hy3⟩) (by assumption) ?rest3
  case hy3 => intro w' hSw; (try dsimp only at hSw); go_simp; (try with_reducible rfl)
  simp only [Act.put]
  refine wpAnyH_ready (rs := [4]) (by kernel_rfl) (by simp) (AllReadyH.cons rfl (fun K9 hK9 => ?_) AllReadyH.nil)
  go_simp
  refine hK9.out _ _ (hS1) (fun _ => ?_)
  clear hK9 K9
  try simp only [Act.put]
  refine wpAnyH_ready (rs := [7]) (by kernel_rfl) (by simp) (AllReadyH.cons rfl (fun K9 hK9 => ?_) AllReadyH.nil)
  go_simp
  refine (cu _ (G0.trans G8)).mono ?_
  rintro e w2 ⟨A', c', X, rfl, hmap, hV, hsv, g9⟩
  dsimp only at hmap
  have G9 : Bl w0 w2 := G8.trans g9
  have hS2 := SK.out w2 G9
  dsimp only
  refine hK9.out _ _ (hS2) (fun _ => ?_)
  clear hK9 K9
  try simp only [Act.put]
  refine wpAnyH_take (i := 8) (v := ?_) rfl (by kernel_rfl) (by kernel_rfl) (by kernel_rfl) (fun _ _ _ h => h) (Or.inl ⟨by rfl, ?hy8⟩) (by assumption) ?rest8
  case hy8 => intro w' hSw; (try dsimp only at hSw); go_simp; (try with_reducible rfl)
  simp only [Act.put]
  refine wpAnyH_take (i := 9) (v := ?_) rfl (by kernel_rfl) (by kernel_rfl) (by kernel_rfl) (fun _ _ _ h => h) (Or.inl ⟨by rfl, ?hy9⟩) (by assumption) ?rest9
  case hy9 => intro w' hSw; (try dsimp only at hSw); go_simp; (try with_reducible rfl)
  simp only [Act.put]
  refine wpAnyH_take (i := 10) (v := ?_) rfl (by kernel_rfl) (by kernel_rfl) (by kernel_rfl) (fun _ _ _ h => h) (Or.inl ⟨by rfl, ?hy10⟩) (by assumption) ?rest10
  case hy10 => intro w' hSw; (try dsimp only at hSw); go_simp; (try with_reducible rfl)
  simp only [Act.put]
  refine wpAnyH_take (i := 11) (v := ?_) rfl (by kernel_rfl) (by kernel_rfl) (by kernel_rfl) (fun _ _ _ h => h) (Or.inl ⟨by rfl, ?hy11⟩) (by assumption) ?rest11
  case hy11 => intro w' hSw; (try dsimp only at hSw); go_simp; (try with_reducible rfl)
  simp only [Act.put]
  refine wpAnyH_take (i := 12) (v := ?_) rfl (by kernel_rfl) (by kernel_rfl) (by kernel_rfl) (fun _ _ _ h => h) (Or.inl ⟨by rfl, ?hy12⟩) (by assumption) ?rest12
  case hy12 => intro w' hSw; (try dsimp only at hSw); go_simp; (try with_reducible rfl)
  simp only [Act.put, List.getElem_toArray, List.getElem_cons_succ, List.getElem_cons_zero]
  refine wpAnyH_done (by kernel_rfl) ?_ _
  have G3 : Bl w w2 := G0.trans G9
  have hxl : X.length = l.length := by rw [← hmap, List.length_map]
  have hsv2 : ∀ p ∈ X, Sv w2 p.2 p.1.b := fun p hp => (hsv p hp).1.bl g9
  have hdd : ∀ p ∈ X, p.1.b = [] ∨ ∀ z, p.2.ownBlock = some z → A.map (·.block) = some z ∧ z < w.heap.size := fun p hp => by
    by_cases h0 : p.1.b = []
    · exact .inl h0
    · exact .inr fun z hz => ⟨(hsv p hp).2 z hz, (hAb.out z ((hsv p hp).2 z hz)).resolve_right (fun h => h0 (h p.1 (by rw [← hmap]; exact List.mem_map_of_mem hp)))⟩
  have X03 := X0.bl G9
  have X13 := X1.bl G9
  have hz2 : w.heap.size + 2 ≤ w2.heap.size := by have := G9.size; omega
  clear hAb hF8 hF9 g8 g9 G8 G9 hsv X0 X1 SK hS1 hS2
  have k0 : (w2).cell? ⟨w.heap.size + 1, 0, none⟩ = some (.int .i64 0) := (X13.cell 0).trans rfl
  have f0 : (w2).frozen? ⟨w.heap.size + 1, 0, none⟩ = false := X13.free 0
  have k1 : (w2).cell? ⟨w.heap.size + 1, 1, none⟩ = some (.int .i64 0) := (X13.cell 1).trans rfl
  have f1 : (w2).frozen? ⟨w.heap.size + 1, 1, none⟩ = false := X13.free 1
  have k2 : (w2).cell? ⟨w.heap.size + 1, 2, none⟩ = some (.int .i64 0) := (X13.cell 2).trans rfl
  have f2 : (w2).frozen? ⟨w.heap.size + 1, 2, none⟩ = false := X13.free 2
  have k3 : (w2).cell? ⟨w.heap.size + 1, 3, none⟩ = some (.int .i64 0) := (X13.cell 3).trans rfl
  have f3 : (w2).frozen? ⟨w.heap.size + 1, 3, none⟩ = false := X13.free 3
  have k4 : (w2).cell? ⟨w.heap.size + 1, 4, none⟩ = some (.int .i64 0) := (X13.cell 4).trans rfl
  have f4 : (w2).frozen? ⟨w.heap.size + 1, 4, none⟩ = false := X13.free 4
  have k5 : (w2).cell? ⟨w.heap.size + 1, 5, none⟩ = some (.int .i64 0) := (X13.cell 5).trans rfl
  have f5 : (w2).frozen? ⟨w.heap.size + 1, 5, none⟩ = false := X13.free 5
  have k6 : (w2).cell? ⟨w.heap.size + 1, 6, none⟩ = some (.int .i64 0) := (X13.cell 6).trans rfl
  have f6 : (w2).frozen? ⟨w.heap.size + 1, 6, none⟩ = false := X13.free 6
  have k7 : (w2).cell? ⟨w.heap.size + 1, 7, none⟩ = some (.int .i64 0) := (X13.cell 7).trans rfl
  have f7 : (w2).frozen? ⟨w.heap.size + 1, 7, none⟩ = false := X13.free 7
  have k8 : (w2).cell? ⟨w.heap.size + 1, 8, none⟩ = some (.string ⟨#[]⟩) := (X13.cell 8).trans rfl
  have f8 : (w2).frozen? ⟨w.heap.size + 1, 8, none⟩ = false := X13.free 8
  have k9 : (w2).cell? ⟨w.heap.size + 1, 9, none⟩ = some (.slice none 0 0) := (X13.cell 9).trans rfl
  have f9 : (w2).frozen? ⟨w.heap.size + 1, 9, none⟩ = false := X13.free 9
  generalize X.length = nx at *
  go_wp2
  clear k0 f0 k1 f1 k2 f2 k3 f3 k4 f4 k5 f5 k6 f6 k7 f7 k8 f8 k9 f9
  have Y := put10_at X13 (.int .i64 0) (.int .i64 0) (.int .i64 0) (.int .i64 0) (.int .i64 0) (.int .i64 0) (.int .i64 0) (.int .i64 0) (.string ⟨#[]⟩) (.slice none 0 0)
  have GY := put10_bl (b := w.heap.size + 1) G3 (by omega) (.int .i64 0) (.int .i64 0) (.int .i64 0) (.int .i64 0) (.int .i64 0) (.int .i64 0) (.int .i64 0) (.int .i64 0) (.string ⟨#[]⟩) (.slice none 0 0)
  generalize ((((((((((w2.setCell ⟨w.heap.size + 1, 0, none⟩ (.int .i64 0)).setCell ⟨w.heap.size + 1, 1, none⟩ (.int .i64 0)).setCell ⟨w.heap.size + 1, 2, none⟩ (.int .i64 0)).setCell ⟨w.heap.size + 1, 3, none⟩ (.int .i64 0)).setCell ⟨w.heap.size + 1, 4, none⟩ (.int .i64 0)).setCell ⟨w.heap.size + 1, 5, none⟩ (.int .i64 0)).setCell ⟨w.heap.size + 1, 6, none⟩ (.int .i64 0)).setCell ⟨w.heap.size + 1, 7, none⟩ (.int .i64 0)).setCell ⟨w.heap.size + 1, 8, none⟩ (.string ⟨#[]⟩)).setCell ⟨w.heap.size + 1, 9, none⟩ (.slice none 0 0)) = VV at *
  have d0 : VV.cell? ⟨w.heap.size + 1, 0, none⟩ = some (.int .i64 0) := (Y.cell 0).trans rfl
  have d1 : VV.cell? ⟨w.heap.size + 1, 1, none⟩ = some (.int .i64 0) := (Y.cell 1).trans rfl
  have d2 : VV.cell? ⟨w.heap.size + 1, 2, none⟩ = some (.int .i64 0) := (Y.cell 2).trans rfl
  have d3 : VV.cell? ⟨w.heap.size + 1, 3, none⟩ = some (.int .i64 0) := (Y.cell 3).trans rfl
  have d4 : VV.cell? ⟨w.heap.size + 1, 4, none⟩ = some (.int .i64 0) := (Y.cell 4).trans rfl
  have d5 : VV.cell? ⟨w.heap.size + 1, 5, none⟩ = some (.int .i64 0) := (Y.cell 5).trans rfl
  have d6 : VV.cell? ⟨w.heap.size + 1, 6, none⟩ = some (.int .i64 0) := (Y.cell 6).trans rfl
  have d7 : VV.cell? ⟨w.heap.size + 1, 7, none⟩ = some (.int .i64 0) := (Y.cell 7).trans rfl
  have d8 : VV.cell? ⟨w.heap.size + 1, 8, none⟩ = some (.string ⟨#[]⟩) := (Y.cell 8).trans rfl
  have d9 : VV.cell? ⟨w.heap.size + 1, 9, none⟩ = some (.slice none 0 0) := (Y.cell 9).trans rfl
  exact bodyPost_ret (v := .tuple #[.agg #[.int .i64 0, .int .i64 0, .int .i64 0, .int .i64 0, .int .i64 0, .int .i64 0, .int .i64 0, .int .i64 0, .string ⟨#[]⟩, .slice none 0 0], .int .i64 E]) (by simp [results, Tryd.results17, go_sem, d0, d1, d2, d3, d4, d5, d6, d7, d8, d9]) rfl ⟨.slice none 0 0, rfl, IsQ.zero _ _, GY⟩
set_option maxRecDepth 100000 in
set_option maxHeartbeats 2000000 in
theorem rdec_no (N n : Nat) (hN : N < 19) (id : Int) (A : Option Addr) (c : Nat) (w : World) (F : ByteArray) (l : List Av) (E : Int) (hE : E = 0)
    (cf : ∀ V, Calls Tryd.prog 41 #[] V (fun e w' => e = .returned (.slice (some ⟨V.heap.size, 0, none⟩) 19 19) ∧ w'.cell? ⟨V.heap.size, N, none⟩ = some (.string F) ∧ Gr V w'))
    (cu : ∀ V, Bl w V → Calls Tryd.prog 52 #[.string F, .slice A n c] V (RuL V A (l, E)))
    (hk : ∀ v ∈ l, v.k = 0 ∨ v.k = 1 ∨ v.k = 2 ∨ v.k = 3) (hl2 : l.length ≤ 2) (hAb : ∀ z, A.map (·.block) = some z → z < w.heap.size ∨ ∀ v ∈ l, v.b = [])
    (hsl : (setL (oQ N id) 0 l).s.size ≤ 1000000) (hop : (setL (oQ N id) 0 l).op = N)
    (ha0 : mayQ (setL (oQ N id) 0 l) = false) :
    Calls Tryd.prog 17 #[.agg #[.int .i64 N, .int .i64 id, .slice A n c]] w (DecQ w (fun k => A.map (·.block) = some k) (zQ, 4)) := by
  subst hE
  replace hsl := Lib.hid hsl
  replace hop := Lib.hid hop
  replace ha0 := Lib.hid ha0
  have hNm : IntKind.i64.wrap (N : Int) = N := IntWalk.i64_in _ (by omega)
  replace hk := Lib.hid hk
  replace hAb := Lib.hid hAb
  have q0 : ¬ (N : Int) < 0 := by omega
  have q18 : ¬ 18 < (N : Int) := by omega
  have q19 : (N : Int) < 19 := by omega
  have X0 := (At.new w #[.int .i64 N, .int .i64 id, .slice A n c] 24).alloc (.cells #[.int .i64 0, .int .i64 0, .int .i64 0, .int .i64 0, .int .i64 0, .int .i64 0, .int .i64 0, .int .i64 0, .string ⟨#[]⟩, .slice none 0 0] 28)
  have X1 := At.newAt (w := w.alloc (.cells #[.int .i64 N, .int .i64 id, .slice A n c] 24)) (n := w.heap.size + 1) (by simp) #[.int .i64 0, .int .i64 0, .int .i64 0, .int .i64 0, .int .i64 0, .int .i64 0, .int .i64 0, .int .i64 0, .string ⟨#[]⟩, .slice none 0 0] 28
  have G0 : Bl w ((w.alloc (.cells #[.int .i64 N, .int .i64 id, .slice A n c] 24)).alloc (.cells #[.int .i64 0, .int .i64 0, .int .i64 0, .int .i64 0, .int .i64 0, .int .i64 0, .int .i64 0, .int .i64 0, .string ⟨#[]⟩, .slice none 0 0] 28)) := ((Bl.refl w).alloc _).alloc _
  have hz0 : w.heap.size + 2 ≤ ((w.alloc (.cells #[.int .i64 N, .int .i64 id, .slice A n c] 24)).alloc (.cells #[.int .i64 0, .int .i64 0, .int .i64 0, .int .i64 0, .int .i64 0, .int .i64 0, .int .i64 0, .int .i64 0, .string ⟨#[]⟩, .slice none 0 0] 28)).heap.size := by simp
  go_enter Tryd.func17, Tryd.ntmps17
  go_wp2
  generalize ((w.alloc (.cells #[.int .i64 N, .int .i64 id, .slice A n c] 24)).alloc (.cells #[.int .i64 0, .int .i64 0, .int .i64 0, .int .i64 0, .int .i64 0, .int .i64 0, .int .i64 0, .int .i64 0, .string ⟨#[]⟩, .slice none 0 0] 28)) = w0 at *
  have SK : ∀ V, Bl w0 V → V.cell? ⟨w.heap.size, 0, none⟩ = some (.int .i64 N) ∧ V.cell? ⟨w.heap.size, 2, none⟩ = some (.slice A n c) ∧ Bl w0 V := fun V g => ⟨((X0.bl g).cell 0).trans rfl, ((X0.bl g).cell 2).trans rfl, g⟩
  replace SK := Lib.hid SK
  refine wp_region_held_drew (S := fun V => V.cell? ⟨w.heap.size, 0, none⟩ = some (.int .i64 N) ∧ V.cell? ⟨w.heap.size, 2, none⟩ = some (.slice A n c) ∧ Bl w0 V) (by kernel_rfl) (SK.out _ (Bl.refl w0).drew) (fun hHeld => ?_)
  refine wpAnyH_take (i := 1) (v := ?_) rfl (by kernel_rfl) (by kernel_rfl) (by kernel_rfl) (fun _ _ _ h => h) (Or.inl ⟨by rfl, ?hy1⟩) (by assumption) ?rest1
  case hy1 => intro w' hSw; (try dsimp only at hSw); go_simp; (try with_reducible rfl)
  simp only [Act.put, List.setIfInBounds_toArray]
  refine wpAnyH_take (i := 2) (v := ?_) rfl (by kernel_rfl) (by kernel_rfl) (by kernel_rfl) (fun _ _ _ h => h) (Or.inl ⟨by rfl, ?hy2⟩) (by assumption) ?rest2
  case hy2 => intro w' hSw; (try dsimp only at hSw); go_simp; (try with_reducible rfl)
  simp only [Act.put]
  refine wpAnyH_take (i := 5) (v := ?_) rfl (by kernel_rfl) (by kernel_rfl) (by kernel_rfl) (fun _ _ _ h => h) (Or.inl ⟨by rfl, ?hy5⟩) (by assumption) ?rest5
  case hy5 => intro w' hSw; (try dsimp only at hSw); go_simp; (try with_reducible rfl)
  simp only [Act.put]
  refine wpAnyH_take (i := 6) (v := ?_) rfl (by kernel_rfl) (by kernel_rfl) (by kernel_rfl) (fun _ _ _ h => h) (Or.inl ⟨by rfl, ?hy6⟩) (by assumption) ?rest6
  case hy6 => intro w' hSw; (try dsimp only at hSw); go_simp; (try with_reducible rfl)
  simp only [Act.put]
  refine wpAnyH_ready (rs := [0]) (by kernel_rfl) (by simp) (AllReadyH.cons rfl (fun K9 hK9 => ?_) AllReadyH.nil)
  go_simp
  refine (cf _).mono ?_
  rintro e V8 ⟨rfl, hF8, g8⟩
  have hF9 : V8.cell? ⟨w0.heap.size, N, none⟩ = some (.string F) := hF8
  have G8 : Bl w0 V8 := (Bl.refl w0).drew.gr g8
  have hS1 := SK.out V8 G8
  dsimp only
  refine hK9.out _ _ (hS1) (fun _ => ?_)
  clear hK9 K9
  try simp only [Act.put]
  refine wpAnyH_take (i := 3) (v := ?_) rfl (by kernel_rfl) (by kernel_rfl) (by kernel_rfl) (fun _ _ _ h => h) (Or.inl ⟨by rfl, ?hy3⟩) (by assumption) ?rest3
  case hy3 => intro w' hSw; (try dsimp only at hSw); go_simp; (try with_reducible rfl)
  simp only [Act.put]
  refine wpAnyH_ready (rs := [4]) (by kernel_rfl) (by simp) (AllReadyH.cons rfl (fun K9 hK9 => ?_) AllReadyH.nil)
  go_simp
  refine hK9.out _ _ (hS1) (fun _ => ?_)
  clear hK9 K9
  try simp only [Act.put]
  refine wpAnyH_ready (rs := [7]) (by kernel_rfl) (by simp) (AllReadyH.cons rfl (fun K9 hK9 => ?_) AllReadyH.nil)
  go_simp
  refine (cu _ (G0.trans G8)).mono ?_
  rintro e w2 ⟨A', c', X, rfl, hmap, hV, hsv, g9⟩
  dsimp only at hmap
  have G9 : Bl w0 w2 := G8.trans g9
  have hS2 := SK.out w2 G9
  dsimp only
  refine hK9.out _ _ (hS2) (fun _ => ?_)
  clear hK9 K9
  try simp only [Act.put]
  refine wpAnyH_take (i := 8) (v := ?_) rfl (by kernel_rfl) (by kernel_rfl) (by kernel_rfl) (fun _ _ _ h => h) (Or.inl ⟨by rfl, ?hy8⟩) (by assumption) ?rest8
  case hy8 => intro w' hSw; (try dsimp only at hSw); go_simp; (try with_reducible rfl)
  simp only [Act.put]
  refine wpAnyH_take (i := 9) (v := ?_) rfl (by kernel_rfl) (by kernel_rfl) (by kernel_rfl) (fun _ _ _ h => h) (Or.inl ⟨by rfl, ?hy9⟩) (by assumption) ?rest9
  case hy9 => intro w' hSw; (try dsimp only at hSw); go_simp; (try with_reducible rfl)
  simp only [Act.put]
  refine wpAnyH_take (i := 10) (v := ?_) rfl (by kernel_rfl) (by kernel_rfl) (by kernel_rfl) (fun _ _ _ h => h) (Or.inl ⟨by rfl, ?hy10⟩) (by assumption) ?rest10
  case hy10 => intro w' hSw; (try dsimp only at hSw); go_simp; (try with_reducible rfl)
  simp only [Act.put]
  refine wpAnyH_take (i := 11) (v := ?_) rfl (by kernel_rfl) (by kernel_rfl) (by kernel_rfl) (fun _ _ _ h => h) (Or.inl ⟨by rfl, ?hy11⟩) (by assumption) ?rest11
  case hy11 => intro w' hSw; (try dsimp only at hSw); go_simp; (try with_reducible rfl)
  simp only [Act.put]
  refine wpAnyH_take (i := 12) (v := ?_) rfl (by kernel_rfl) (by kernel_rfl) (by kernel_rfl) (fun _ _ _ h => h) (Or.inl ⟨by rfl, ?hy12⟩) (by assumption) ?rest12
  case hy12 => intro w' hSw; (try dsimp only at hSw); go_simp; (try with_reducible rfl)
  simp only [Act.put, List.getElem_toArray, List.getElem_cons_succ, List.getElem_cons_zero]
  refine wpAnyH_done (by kernel_rfl) ?_ _
  have G3 : Bl w w2 := G0.trans G9
  have hxl : X.length = l.length := by rw [← hmap, List.length_map]
  have hsv2 : ∀ p ∈ X, Sv w2 p.2 p.1.b := fun p hp => (hsv p hp).1.bl g9
  have hdd : ∀ p ∈ X, p.1.b = [] ∨ ∀ z, p.2.ownBlock = some z → A.map (·.block) = some z ∧ z < w.heap.size := fun p hp => by
    by_cases h0 : p.1.b = []
    · exact .inl h0
    · exact .inr fun z hz => ⟨(hsv p hp).2 z hz, (hAb.out z ((hsv p hp).2 z hz)).resolve_right (fun h => h0 (h p.1 (by rw [← hmap]; exact List.mem_map_of_mem hp)))⟩
  have X03 := X0.bl G9
  have X13 := X1.bl G9
  have hz2 : w.heap.size + 2 ≤ w2.heap.size := by have := G9.size; omega
  clear hAb hF8 hF9 g8 g9 G8 G9 hsv X0 X1 SK hS1 hS2
  obtain ⟨nx, hnx⟩ : ∃ nx, nx = X.length := ⟨_, rfl⟩
  rw [← hnx] at hxl ⊢
  have hnx2 : nx ≤ 2 := by omega
  have hYf := hV.far
  have hV3 := hV.bl ((Bl.refl w2).alloc (.cells #[.int .i64 N, .int .i64 id, .int .i64 0, .int .i64 0, .int .i64 0, .int .i64 0, .int .i64 0, .int .i64 0, .string ⟨#[]⟩, .slice none 0 0] 28))
  have X04 := X03.alloc (.cells #[.int .i64 N, .int .i64 id, .int .i64 0, .int .i64 0, .int .i64 0, .int .i64 0, .int .i64 0, .int .i64 0, .string ⟨#[]⟩, .slice none 0 0] 28)
  have X14 := X13.alloc (.cells #[.int .i64 N, .int .i64 id, .int .i64 0, .int .i64 0, .int .i64 0, .int .i64 0, .int .i64 0, .int .i64 0, .string ⟨#[]⟩, .slice none 0 0] 28)
  have L0 := X03.lt
  have L1 := X13.lt
  have a0 : w2.cell? ⟨w.heap.size, 0, none⟩ = some (.int .i64 N) := (X03.cell 0).trans rfl
  have a1 : w2.cell? ⟨w.heap.size, 1, none⟩ = some (.int .i64 id) := (X03.cell 1).trans rfl
  replace hYf := Lib.hid hYf
  replace hV3 := Lib.hid hV3
  replace hnx := Lib.hid hnx
  replace hxl := Lib.hid hxl
  replace hmap := Lib.hid hmap
  replace hsv2 := Lib.hid hsv2
  replace hdd := Lib.hid hdd
  clear X03 X13 hV
  have hsz3 := G3.size
  go_wp2
  clear a0 a1
  go_loopw [7] (fun i wr => ∃ k rk dk, k ≤ nx ∧ i = .int .i64 ((k : Nat) : Int) ∧ Hid (rk = setL (oQ N id) 0 (l.take k)) ∧ At wr w2.heap.size (c10 rk dk) 28 ∧ IsQ wr (fun z => A.map (·.block) = some z ∧ z < w.heap.size) rk dk ∧ World.grownBy (w2.alloc (.cells #[.int .i64 N, .int .i64 id, .int .i64 0, .int .i64 0, .int .i64 0, .int .i64 0, .int .i64 0, .int .i64 0, .string ⟨#[]⟩, .slice none 0 0] 28)) wr (some w2.heap.size) ∧ Bl w wr) (fun i _ => nx - (intOf i).toNat)
  case atStart => exact ⟨0, oQ N id, .slice none 0 0, Nat.zero_le _, rfl, Lib.hid rfl, At.new w2 _ _, IsQ.bare _ _ _ _, By.refl _ _, G3.alloc _⟩
  case round =>
    obtain ⟨k, rk, dk, hkn, rfl, hrk, hX, hQ, gB, GG⟩ := hrel
    by_cases hlt : k < nx
    · have q1 : (k : Int) < nx := by omega
      have hwsv : ∀ p ∈ X, Sv wr p.2 p.1.b := fun p hp => by
        refine ((hsv2.out p hp).bl ((Bl.refl w2).alloc (.cells #[.int .i64 N, .int .i64 id, .int .i64 0, .int .i64 0, .int .i64 0, .int .i64 0, .int .i64 0, .int .i64 0, .string ⟨#[]⟩, .slice none 0 0] 28))).by gB ?_
        rcases hdd.out p hp with h | h
        · exact .inl h
        · cases ho : p.2.ownBlock with
          | none => exact .inr (.inl ho)
          | some z => exact .inr (.inr fun e => by have := (h z ho).2; rw [ho] at e; have e' : z = w2.heap.size := Option.some.inj e; omega)
      obtain ⟨b, off, p, rfl, hp8, hcells, hpsv⟩ := (hV3.out.by gB hYf.out hwsv).at (k := k) (by rw [← hnx.out]; exact hlt)
      have hpm := List.mem_of_getElem? hp8
      have ha : l[k]? = some p.1 := by rw [← hmap.out, List.getElem?_map, hp8]; rfl
      have hpk := hk.out p.1 (List.mem_of_getElem? ha)
      have hpd := hdd.out p hpm
      have hnext : setA rk k p.1 = setL (oQ N id) 0 (l.take (k + 1)) := by
        rw [take_snoc1 ha, setL_snoc, ← hrk.out, List.length_take, Nat.min_eq_left (by have := hxl.out; omega), Nat.zero_add]
      obtain ⟨F0, F1, F2, F3, F4, F5, F6, F7⟩ := hcells
      clear hwsv hpm ha hp8
      obtain ⟨A0, c0, rfl, _⟩ := hQ.sv
      obtain ⟨⟨pk, pn, ps, px0, py0, px1, py1, pb⟩, pv⟩ := p
      dsimp only at *
      obtain ⟨A1, c1, rfl, hA1⟩ := hpsv
      have hpsv2 : Sv wr (.slice A1 pb.length c1) pb := ⟨A1, c1, rfl, hA1⟩
      have hQ0 := hQ
      replace hQ := Lib.hid hQ
      replace hpsv2 := Lib.hid hpsv2
      replace hpd := Lib.hid hpd
      clear hA1 hQ0
      obtain ⟨rop, rid, ra, rb, rx0, ry0, rx1, ry1, rs, rd⟩ := rk
      dsimp only at *
      have k0 : (wr).cell? ⟨w2.heap.size, 0, none⟩ = some (.int .i64 rop) := (hX.cell 0).trans rfl
      have f0 : (wr).frozen? ⟨w2.heap.size, 0, none⟩ = false := hX.free 0
      have k1 : (wr).cell? ⟨w2.heap.size, 1, none⟩ = some (.int .i64 rid) := (hX.cell 1).trans rfl
      have f1 : (wr).frozen? ⟨w2.heap.size, 1, none⟩ = false := hX.free 1
      have k2 : (wr).cell? ⟨w2.heap.size, 2, none⟩ = some (.int .i64 ra) := (hX.cell 2).trans rfl
      have f2 : (wr).frozen? ⟨w2.heap.size, 2, none⟩ = false := hX.free 2
      have k3 : (wr).cell? ⟨w2.heap.size, 3, none⟩ = some (.int .i64 rb) := (hX.cell 3).trans rfl
      have f3 : (wr).frozen? ⟨w2.heap.size, 3, none⟩ = false := hX.free 3
      have k4 : (wr).cell? ⟨w2.heap.size, 4, none⟩ = some (.int .i64 rx0) := (hX.cell 4).trans rfl
      have f4 : (wr).frozen? ⟨w2.heap.size, 4, none⟩ = false := hX.free 4
      have k5 : (wr).cell? ⟨w2.heap.size, 5, none⟩ = some (.int .i64 ry0) := (hX.cell 5).trans rfl
      have f5 : (wr).frozen? ⟨w2.heap.size, 5, none⟩ = false := hX.free 5
      have k6 : (wr).cell? ⟨w2.heap.size, 6, none⟩ = some (.int .i64 rx1) := (hX.cell 6).trans rfl
      have f6 : (wr).frozen? ⟨w2.heap.size, 6, none⟩ = false := hX.free 6
      have k7 : (wr).cell? ⟨w2.heap.size, 7, none⟩ = some (.int .i64 ry1) := (hX.cell 7).trans rfl
      have f7 : (wr).frozen? ⟨w2.heap.size, 7, none⟩ = false := hX.free 7
      have k8 : (wr).cell? ⟨w2.heap.size, 8, none⟩ = some (.string rs) := (hX.cell 8).trans rfl
      have f8 : (wr).frozen? ⟨w2.heap.size, 8, none⟩ = false := hX.free 8
      have k9 : (wr).cell? ⟨w2.heap.size, 9, none⟩ = some (.slice A0 rd.length c0) := (hX.cell 9).trans rfl
      have f9 : (wr).frozen? ⟨w2.heap.size, 9, none⟩ = false := hX.free 9
      rcases hpk with h | h | h | h
      · subst h
        by_cases hi : k = 0
        · subst hi
          simp only [Nat.zero_mul, Nat.add_zero] at F0 F1 F2 F3 F4 F5 F6 F7
          have e9 : setA ⟨rop, rid, ra, rb, rx0, ry0, rx1, ry1, rs, rd⟩ 0 ⟨0, pn, ps, px0, py0, px1, py1, pb⟩ = ⟨rop, rid, pn, rb, rx0, ry0, rx1, ry1, rs, rd⟩ := by unfold setA; rw [if_pos rfl, if_pos rfl]
          rw [e9] at hnext
          have hX6 : At (wr.setCell ⟨w2.heap.size, 2, none⟩ (.int .i64 pn)) w2.heap.size (c10 (⟨rop, rid, pn, rb, rx0, ry0, rx1, ry1, rs, rd⟩) (.slice A0 rd.length c0)) 28 := by simpa [c10] using (hX.put 2 (.int .i64 pn))
          have hB6 : World.grownBy (w2.alloc (.cells #[.int .i64 N, .int .i64 id, .int .i64 0, .int .i64 0, .int .i64 0, .int .i64 0, .int .i64 0, .int .i64 0, .string ⟨#[]⟩, .slice none 0 0] 28)) (wr.setCell ⟨w2.heap.size, 2, none⟩ (.int .i64 pn)) (some w2.heap.size) := (By.set (p := ⟨w2.heap.size, 2, none⟩) gB (.int .i64 pn))
          have GG6 : Bl w (wr.setCell ⟨w2.heap.size, 2, none⟩ (.int .i64 pn)) := (GG.setCell (p := ⟨w2.heap.size, 2, none⟩) hsz3 (.int .i64 pn))
          have hBs : wr.grownBy (wr.setCell ⟨w2.heap.size, 2, none⟩ (.int .i64 pn)) (some w2.heap.size) := By.set (p := ⟨w2.heap.size, 2, none⟩) (By.refl wr (some w2.heap.size)) (.int .i64 pn)
          have hQ6 : IsQ (wr.setCell ⟨w2.heap.size, 2, none⟩ (.int .i64 pn)) (fun z => A.map (·.block) = some z ∧ z < w.heap.size) (⟨rop, rid, pn, rb, rx0, ry0, rx1, ry1, rs, rd⟩) (.slice A0 rd.length c0) := IsQ.by (⟨hQ.out.sv, hQ.out.dd⟩) hBs (fun z hz => by have := hz.2; omega)
          clear hBs e9
          replace hX6 := Lib.hid hX6
          replace hB6 := Lib.hid hB6
          replace GG6 := Lib.hid GG6
          replace hQ6 := Lib.hid hQ6
          replace hnext := Lib.hid hnext
          go_wp2
          go_roundw
          case rel => exact ⟨0 + 1, ⟨rop, rid, pn, rb, rx0, ry0, rx1, ry1, rs, rd⟩, _, by omega, by go_num, hnext, hX6.out, hQ6.out, hB6.out, GG6.out⟩
          case measure => simp [intOf]; omega
        · have hi1 : ¬ (k : Int) = 0 := by omega
          have e9 : setA ⟨rop, rid, ra, rb, rx0, ry0, rx1, ry1, rs, rd⟩ k ⟨0, pn, ps, px0, py0, px1, py1, pb⟩ = ⟨rop, rid, ra, pn, rx0, ry0, rx1, ry1, rs, rd⟩ := by unfold setA; rw [if_pos rfl, if_neg hi]
          rw [e9] at hnext
          have hX6 : At (wr.setCell ⟨w2.heap.size, 3, none⟩ (.int .i64 pn)) w2.heap.size (c10 (⟨rop, rid, ra, pn, rx0, ry0, rx1, ry1, rs, rd⟩) (.slice A0 rd.length c0)) 28 := by simpa [c10] using (hX.put 3 (.int .i64 pn))
          have hB6 : World.grownBy (w2.alloc (.cells #[.int .i64 N, .int .i64 id, .int .i64 0, .int .i64 0, .int .i64 0, .int .i64 0, .int .i64 0, .int .i64 0, .string ⟨#[]⟩, .slice none 0 0] 28)) (wr.setCell ⟨w2.heap.size, 3, none⟩ (.int .i64 pn)) (some w2.heap.size) := (By.set (p := ⟨w2.heap.size, 3, none⟩) gB (.int .i64 pn))
          have GG6 : Bl w (wr.setCell ⟨w2.heap.size, 3, none⟩ (.int .i64 pn)) := (GG.setCell (p := ⟨w2.heap.size, 3, none⟩) hsz3 (.int .i64 pn))
          have hBs : wr.grownBy (wr.setCell ⟨w2.heap.size, 3, none⟩ (.int .i64 pn)) (some w2.heap.size) := By.set (p := ⟨w2.heap.size, 3, none⟩) (By.refl wr (some w2.heap.size)) (.int .i64 pn)
          have hQ6 : IsQ (wr.setCell ⟨w2.heap.size, 3, none⟩ (.int .i64 pn)) (fun z => A.map (·.block) = some z ∧ z < w.heap.size) (⟨rop, rid, ra, pn, rx0, ry0, rx1, ry1, rs, rd⟩) (.slice A0 rd.length c0) := IsQ.by (⟨hQ.out.sv, hQ.out.dd⟩) hBs (fun z hz => by have := hz.2; omega)
          clear hBs e9
          replace hX6 := Lib.hid hX6
          replace hB6 := Lib.hid hB6
          replace GG6 := Lib.hid GG6
          replace hQ6 := Lib.hid hQ6
          replace hnext := Lib.hid hnext
          go_wp2
          go_roundw
          case rel => exact ⟨k + 1, ⟨rop, rid, ra, pn, rx0, ry0, rx1, ry1, rs, rd⟩, _, by omega, by go_num, hnext, hX6.out, hQ6.out, hB6.out, GG6.out⟩
          case measure => simp [intOf]; omega
      · subst h
        have e9 : setA ⟨rop, rid, ra, rb, rx0, ry0, rx1, ry1, rs, rd⟩ k ⟨1, pn, ps, px0, py0, px1, py1, pb⟩ = ⟨rop, rid, ra, rb, rx0, ry0, rx1, ry1, ps, rd⟩ := by unfold setA; rfl
        rw [e9] at hnext
        have hX6 : At (wr.setCell ⟨w2.heap.size, 8, none⟩ (.string ps)) w2.heap.size (c10 (⟨rop, rid, ra, rb, rx0, ry0, rx1, ry1, ps, rd⟩) (.slice A0 rd.length c0)) 28 := by simpa [c10] using (hX.put 8 (.string ps))
        have hB6 : World.grownBy (w2.alloc (.cells #[.int .i64 N, .int .i64 id, .int .i64 0, .int .i64 0, .int .i64 0, .int .i64 0, .int .i64 0, .int .i64 0, .string ⟨#[]⟩, .slice none 0 0] 28)) (wr.setCell ⟨w2.heap.size, 8, none⟩ (.string ps)) (some w2.heap.size) := (By.set (p := ⟨w2.heap.size, 8, none⟩) gB (.string ps))
        have GG6 : Bl w (wr.setCell ⟨w2.heap.size, 8, none⟩ (.string ps)) := (GG.setCell (p := ⟨w2.heap.size, 8, none⟩) hsz3 (.string ps))
        have hBs : wr.grownBy (wr.setCell ⟨w2.heap.size, 8, none⟩ (.string ps)) (some w2.heap.size) := By.set (p := ⟨w2.heap.size, 8, none⟩) (By.refl wr (some w2.heap.size)) (.string ps)
        have hQ6 : IsQ (wr.setCell ⟨w2.heap.size, 8, none⟩ (.string ps)) (fun z => A.map (·.block) = some z ∧ z < w.heap.size) (⟨rop, rid, ra, rb, rx0, ry0, rx1, ry1, ps, rd⟩) (.slice A0 rd.length c0) := IsQ.by (⟨hQ.out.sv, hQ.out.dd⟩) hBs (fun z hz => by have := hz.2; omega)
        clear hBs e9
        replace hX6 := Lib.hid hX6
        replace hB6 := Lib.hid hB6
        replace GG6 := Lib.hid GG6
        replace hQ6 := Lib.hid hQ6
        replace hnext := Lib.hid hnext
        go_wp2
        go_roundw
        case rel => exact ⟨k + 1, ⟨rop, rid, ra, rb, rx0, ry0, rx1, ry1, ps, rd⟩, _, by omega, by go_num, hnext, hX6.out, hQ6.out, hB6.out, GG6.out⟩
        case measure => simp [intOf]; omega
      · subst h
        have e9 : setA ⟨rop, rid, ra, rb, rx0, ry0, rx1, ry1, rs, rd⟩ k ⟨2, pn, ps, px0, py0, px1, py1, pb⟩ = ⟨rop, rid, ra, rb, px0, py0, px1, py1, rs, rd⟩ := by unfold setA; rfl
        rw [e9] at hnext
        have hX6 : At ((((wr.setCell ⟨w2.heap.size, 4, none⟩ (.int .i64 px0)).setCell ⟨w2.heap.size, 5, none⟩ (.int .i64 py0)).setCell ⟨w2.heap.size, 6, none⟩ (.int .i64 px1)).setCell ⟨w2.heap.size, 7, none⟩ (.int .i64 py1)) w2.heap.size (c10 (⟨rop, rid, ra, rb, px0, py0, px1, py1, rs, rd⟩) (.slice A0 rd.length c0)) 28 := by simpa [c10] using ((((hX.put 4 (.int .i64 px0)).put 5 (.int .i64 py0)).put 6 (.int .i64 px1)).put 7 (.int .i64 py1))
        have hB6 : World.grownBy (w2.alloc (.cells #[.int .i64 N, .int .i64 id, .int .i64 0, .int .i64 0, .int .i64 0, .int .i64 0, .int .i64 0, .int .i64 0, .string ⟨#[]⟩, .slice none 0 0] 28)) ((((wr.setCell ⟨w2.heap.size, 4, none⟩ (.int .i64 px0)).setCell ⟨w2.heap.size, 5, none⟩ (.int .i64 py0)).setCell ⟨w2.heap.size, 6, none⟩ (.int .i64 px1)).setCell ⟨w2.heap.size, 7, none⟩ (.int .i64 py1)) (some w2.heap.size) := (By.set (p := ⟨w2.heap.size, 7, none⟩) (By.set (p := ⟨w2.heap.size, 6, none⟩) (By.set (p := ⟨w2.heap.size, 5, none⟩) (By.set (p := ⟨w2.heap.size, 4, none⟩) gB (.int .i64 px0)) (.int .i64 py0)) (.int .i64 px1)) (.int .i64 py1))
        have GG6 : Bl w ((((wr.setCell ⟨w2.heap.size, 4, none⟩ (.int .i64 px0)).setCell ⟨w2.heap.size, 5, none⟩ (.int .i64 py0)).setCell ⟨w2.heap.size, 6, none⟩ (.int .i64 px1)).setCell ⟨w2.heap.size, 7, none⟩ (.int .i64 py1)) := ((((GG.setCell (p := ⟨w2.heap.size, 4, none⟩) hsz3 (.int .i64 px0)).setCell (p := ⟨w2.heap.size, 5, none⟩) hsz3 (.int .i64 py0)).setCell (p := ⟨w2.heap.size, 6, none⟩) hsz3 (.int .i64 px1)).setCell (p := ⟨w2.heap.size, 7, none⟩) hsz3 (.int .i64 py1))
        have hBs : wr.grownBy ((((wr.setCell ⟨w2.heap.size, 4, none⟩ (.int .i64 px0)).setCell ⟨w2.heap.size, 5, none⟩ (.int .i64 py0)).setCell ⟨w2.heap.size, 6, none⟩ (.int .i64 px1)).setCell ⟨w2.heap.size, 7, none⟩ (.int .i64 py1)) (some w2.heap.size) := By.set (p := ⟨w2.heap.size, 7, none⟩) (By.set (p := ⟨w2.heap.size, 6, none⟩) (By.set (p := ⟨w2.heap.size, 5, none⟩) (By.set (p := ⟨w2.heap.size, 4, none⟩) (By.refl wr (some w2.heap.size)) (.int .i64 px0)) (.int .i64 py0)) (.int .i64 px1)) (.int .i64 py1)
        have hQ6 : IsQ ((((wr.setCell ⟨w2.heap.size, 4, none⟩ (.int .i64 px0)).setCell ⟨w2.heap.size, 5, none⟩ (.int .i64 py0)).setCell ⟨w2.heap.size, 6, none⟩ (.int .i64 px1)).setCell ⟨w2.heap.size, 7, none⟩ (.int .i64 py1)) (fun z => A.map (·.block) = some z ∧ z < w.heap.size) (⟨rop, rid, ra, rb, px0, py0, px1, py1, rs, rd⟩) (.slice A0 rd.length c0) := IsQ.by (⟨hQ.out.sv, hQ.out.dd⟩) hBs (fun z hz => by have := hz.2; omega)
        clear hBs e9
        replace hX6 := Lib.hid hX6
        replace hB6 := Lib.hid hB6
        replace GG6 := Lib.hid GG6
        replace hQ6 := Lib.hid hQ6
        replace hnext := Lib.hid hnext
        go_wp2
        go_roundw
        case rel => exact ⟨k + 1, ⟨rop, rid, ra, rb, px0, py0, px1, py1, rs, rd⟩, _, by omega, by go_num, hnext, hX6.out, hQ6.out, hB6.out, GG6.out⟩
        case measure => simp [intOf]; omega
      · subst h
        have e9 : setA ⟨rop, rid, ra, rb, rx0, ry0, rx1, ry1, rs, rd⟩ k ⟨3, pn, ps, px0, py0, px1, py1, pb⟩ = ⟨rop, rid, ra, rb, rx0, ry0, rx1, ry1, rs, pb⟩ := by unfold setA; rfl
        rw [e9] at hnext
        have hX6 : At (wr.setCell ⟨w2.heap.size, 9, none⟩ ((Value.slice A1 pb.length c1))) w2.heap.size (c10 (⟨rop, rid, ra, rb, rx0, ry0, rx1, ry1, rs, pb⟩) (.slice A1 pb.length c1)) 28 := by simpa [c10] using (hX.put 9 ((Value.slice A1 pb.length c1)))
        have hB6 : World.grownBy (w2.alloc (.cells #[.int .i64 N, .int .i64 id, .int .i64 0, .int .i64 0, .int .i64 0, .int .i64 0, .int .i64 0, .int .i64 0, .string ⟨#[]⟩, .slice none 0 0] 28)) (wr.setCell ⟨w2.heap.size, 9, none⟩ ((Value.slice A1 pb.length c1))) (some w2.heap.size) := (By.set (p := ⟨w2.heap.size, 9, none⟩) gB ((Value.slice A1 pb.length c1)))
        have GG6 : Bl w (wr.setCell ⟨w2.heap.size, 9, none⟩ ((Value.slice A1 pb.length c1))) := (GG.setCell (p := ⟨w2.heap.size, 9, none⟩) hsz3 ((Value.slice A1 pb.length c1)))
        have hBs : wr.grownBy (wr.setCell ⟨w2.heap.size, 9, none⟩ ((Value.slice A1 pb.length c1))) (some w2.heap.size) := By.set (p := ⟨w2.heap.size, 9, none⟩) (By.refl wr (some w2.heap.size)) ((Value.slice A1 pb.length c1))
        have hQ6 : IsQ (wr.setCell ⟨w2.heap.size, 9, none⟩ ((Value.slice A1 pb.length c1))) (fun z => A.map (·.block) = some z ∧ z < w.heap.size) (⟨rop, rid, ra, rb, rx0, ry0, rx1, ry1, rs, pb⟩) (.slice A1 pb.length c1) := IsQ.by (⟨hpsv2.out, hpd.out⟩) hBs (fun z hz => by have := hz.2; omega)
        clear hBs e9
        replace hX6 := Lib.hid hX6
        replace hB6 := Lib.hid hB6
        replace GG6 := Lib.hid GG6
        replace hQ6 := Lib.hid hQ6
        replace hnext := Lib.hid hnext
        go_wp2
        go_roundw
        case rel => exact ⟨k + 1, ⟨rop, rid, ra, rb, rx0, ry0, rx1, ry1, rs, pb⟩, _, by omega, by go_num, hnext, hX6.out, hQ6.out, hB6.out, GG6.out⟩
        case measure => simp [intOf]; omega
    · have q1 : ¬ (k : Int) < nx := by omega
      have hkn' : k = nx := by omega
      have hrkR : rk = setL (oQ N id) 0 l := by rw [hrk.out, List.take_of_length_le (by rw [← hxl.out]; omega)]
      have Y1 := X14.grown gB (by simp; omega)
      replace hkn' := Lib.hid hkn'
      clear hV3 hYf X04 X14
      obtain ⟨A0, c0, rfl, _⟩ := hQ.sv
      have cg := fun V => rmayQ1 rk A0 rk.d.length c0 (by rw [hrkR, hop.out]; omega) (by rw [hrkR]; exact hsl.out) V
      rw [show mayQ rk = false by rw [hrkR]; exact ha0.out] at cg
      replace hrkR := Lib.hid hrkR
      have rk0 : (wr).cell? ⟨w2.heap.size, 0, none⟩ = some (.int .i64 rk.op) := (hX.cell 0).trans rfl
      have rf0 : (wr).frozen? ⟨w2.heap.size, 0, none⟩ = false := hX.free 0
      have rk1 : (wr).cell? ⟨w2.heap.size, 1, none⟩ = some (.int .i64 rk.id) := (hX.cell 1).trans rfl
      have rf1 : (wr).frozen? ⟨w2.heap.size, 1, none⟩ = false := hX.free 1
      have rk2 : (wr).cell? ⟨w2.heap.size, 2, none⟩ = some (.int .i64 rk.a) := (hX.cell 2).trans rfl
      have rf2 : (wr).frozen? ⟨w2.heap.size, 2, none⟩ = false := hX.free 2
      have rk3 : (wr).cell? ⟨w2.heap.size, 3, none⟩ = some (.int .i64 rk.b) := (hX.cell 3).trans rfl
      have rf3 : (wr).frozen? ⟨w2.heap.size, 3, none⟩ = false := hX.free 3
      have rk4 : (wr).cell? ⟨w2.heap.size, 4, none⟩ = some (.int .i64 rk.x0) := (hX.cell 4).trans rfl
      have rf4 : (wr).frozen? ⟨w2.heap.size, 4, none⟩ = false := hX.free 4
      have rk5 : (wr).cell? ⟨w2.heap.size, 5, none⟩ = some (.int .i64 rk.y0) := (hX.cell 5).trans rfl
      have rf5 : (wr).frozen? ⟨w2.heap.size, 5, none⟩ = false := hX.free 5
      have rk6 : (wr).cell? ⟨w2.heap.size, 6, none⟩ = some (.int .i64 rk.x1) := (hX.cell 6).trans rfl
      have rf6 : (wr).frozen? ⟨w2.heap.size, 6, none⟩ = false := hX.free 6
      have rk7 : (wr).cell? ⟨w2.heap.size, 7, none⟩ = some (.int .i64 rk.y1) := (hX.cell 7).trans rfl
      have rf7 : (wr).frozen? ⟨w2.heap.size, 7, none⟩ = false := hX.free 7
      have rk8 : (wr).cell? ⟨w2.heap.size, 8, none⟩ = some (.string rk.s) := (hX.cell 8).trans rfl
      have rf8 : (wr).frozen? ⟨w2.heap.size, 8, none⟩ = false := hX.free 8
      have rk9 : (wr).cell? ⟨w2.heap.size, 9, none⟩ = some (.slice A0 rk.d.length c0) := (hX.cell 9).trans rfl
      have rf9 : (wr).frozen? ⟨w2.heap.size, 9, none⟩ = false := hX.free 9
      go_wp2_with fail
      refine (cg _).mono ?_
      rintro e w7 ⟨rfl, g7⟩
      have U1 := Y1.bl g7
      have GG7 := GG.trans g7
      have hX7 := hX.bl g7
      clear rk0 rf0 rk1 rf1 rk2 rf2 rk3 rf3 rk4 rf4 rk5 rf5 rk6 rf6 rk7 rf7 rk8 rf8 rk9 rf9
      have k0 : (w7).cell? ⟨w.heap.size + 1, 0, none⟩ = some (.int .i64 0) := (U1.cell 0).trans rfl
      have f0 : (w7).frozen? ⟨w.heap.size + 1, 0, none⟩ = false := U1.free 0
      have k1 : (w7).cell? ⟨w.heap.size + 1, 1, none⟩ = some (.int .i64 0) := (U1.cell 1).trans rfl
      have f1 : (w7).frozen? ⟨w.heap.size + 1, 1, none⟩ = false := U1.free 1
      have k2 : (w7).cell? ⟨w.heap.size + 1, 2, none⟩ = some (.int .i64 0) := (U1.cell 2).trans rfl
      have f2 : (w7).frozen? ⟨w.heap.size + 1, 2, none⟩ = false := U1.free 2
      have k3 : (w7).cell? ⟨w.heap.size + 1, 3, none⟩ = some (.int .i64 0) := (U1.cell 3).trans rfl
      have f3 : (w7).frozen? ⟨w.heap.size + 1, 3, none⟩ = false := U1.free 3
      have k4 : (w7).cell? ⟨w.heap.size + 1, 4, none⟩ = some (.int .i64 0) := (U1.cell 4).trans rfl
      have f4 : (w7).frozen? ⟨w.heap.size + 1, 4, none⟩ = false := U1.free 4
      have k5 : (w7).cell? ⟨w.heap.size + 1, 5, none⟩ = some (.int .i64 0) := (U1.cell 5).trans rfl
      have f5 : (w7).frozen? ⟨w.heap.size + 1, 5, none⟩ = false := U1.free 5
      have k6 : (w7).cell? ⟨w.heap.size + 1, 6, none⟩ = some (.int .i64 0) := (U1.cell 6).trans rfl
      have f6 : (w7).frozen? ⟨w.heap.size + 1, 6, none⟩ = false := U1.free 6
      have k7 : (w7).cell? ⟨w.heap.size + 1, 7, none⟩ = some (.int .i64 0) := (U1.cell 7).trans rfl
      have f7 : (w7).frozen? ⟨w.heap.size + 1, 7, none⟩ = false := U1.free 7
      have k8 : (w7).cell? ⟨w.heap.size + 1, 8, none⟩ = some (.string ⟨#[]⟩) := (U1.cell 8).trans rfl
      have f8 : (w7).frozen? ⟨w.heap.size + 1, 8, none⟩ = false := U1.free 8
      have k9 : (w7).cell? ⟨w.heap.size + 1, 9, none⟩ = some (.slice none 0 0) := (U1.cell 9).trans rfl
      have f9 : (w7).frozen? ⟨w.heap.size + 1, 9, none⟩ = false := U1.free 9
      go_wp2
      clear k0 f0 k1 f1 k2 f2 k3 f3 k4 f4 k5 f5 k6 f6 k7 f7 k8 f8 k9 f9
      have Y := put10_at U1 (.int .i64 0) (.int .i64 0) (.int .i64 0) (.int .i64 0) (.int .i64 0) (.int .i64 0) (.int .i64 0) (.int .i64 0) (.string ⟨#[]⟩) (.slice none 0 0)
      have GY := put10_bl (b := w.heap.size + 1) GG7 (by omega) (.int .i64 0) (.int .i64 0) (.int .i64 0) (.int .i64 0) (.int .i64 0) (.int .i64 0) (.int .i64 0) (.int .i64 0) (.string ⟨#[]⟩) (.slice none 0 0)
      generalize ((((((((((w7.setCell ⟨w.heap.size + 1, 0, none⟩ (.int .i64 0)).setCell ⟨w.heap.size + 1, 1, none⟩ (.int .i64 0)).setCell ⟨w.heap.size + 1, 2, none⟩ (.int .i64 0)).setCell ⟨w.heap.size + 1, 3, none⟩ (.int .i64 0)).setCell ⟨w.heap.size + 1, 4, none⟩ (.int .i64 0)).setCell ⟨w.heap.size + 1, 5, none⟩ (.int .i64 0)).setCell ⟨w.heap.size + 1, 6, none⟩ (.int .i64 0)).setCell ⟨w.heap.size + 1, 7, none⟩ (.int .i64 0)).setCell ⟨w.heap.size + 1, 8, none⟩ (.string ⟨#[]⟩)).setCell ⟨w.heap.size + 1, 9, none⟩ (.slice none 0 0)) = VV at *
      have d0 : VV.cell? ⟨w.heap.size + 1, 0, none⟩ = some (.int .i64 0) := (Y.cell 0).trans rfl
      have d1 : VV.cell? ⟨w.heap.size + 1, 1, none⟩ = some (.int .i64 0) := (Y.cell 1).trans rfl
      have d2 : VV.cell? ⟨w.heap.size + 1, 2, none⟩ = some (.int .i64 0) := (Y.cell 2).trans rfl
      have d3 : VV.cell? ⟨w.heap.size + 1, 3, none⟩ = some (.int .i64 0) := (Y.cell 3).trans rfl
      have d4 : VV.cell? ⟨w.heap.size + 1, 4, none⟩ = some (.int .i64 0) := (Y.cell 4).trans rfl
      have d5 : VV.cell? ⟨w.heap.size + 1, 5, none⟩ = some (.int .i64 0) := (Y.cell 5).trans rfl
      have d6 : VV.cell? ⟨w.heap.size + 1, 6, none⟩ = some (.int .i64 0) := (Y.cell 6).trans rfl
      have d7 : VV.cell? ⟨w.heap.size + 1, 7, none⟩ = some (.int .i64 0) := (Y.cell 7).trans rfl
      have d8 : VV.cell? ⟨w.heap.size + 1, 8, none⟩ = some (.string ⟨#[]⟩) := (Y.cell 8).trans rfl
      have d9 : VV.cell? ⟨w.heap.size + 1, 9, none⟩ = some (.slice none 0 0) := (Y.cell 9).trans rfl
      exact bodyPost_ret (v := .tuple #[.agg #[.int .i64 0, .int .i64 0, .int .i64 0, .int .i64 0, .int .i64 0, .int .i64 0, .int .i64 0, .int .i64 0, .string ⟨#[]⟩, .slice none 0 0], .int .i64 4]) (by simp [results, Tryd.results17, go_sem, d0, d1, d2, d3, d4, d5, d6, d7, d8, d9]) rfl ⟨.slice none 0 0, rfl, IsQ.zero _ _, GY⟩
set_option maxRecDepth 100000 in
set_option maxHeartbeats 2000000 in
theorem rdec_ok (N n : Nat) (hN : N < 19) (id : Int) (A : Option Addr) (c : Nat) (w : World) (F : ByteArray) (l : List Av) (E : Int) (hE : E = 0)
    (cf : ∀ V, Calls Tryd.prog 41 #[] V (fun e w' => e = .returned (.slice (some ⟨V.heap.size, 0, none⟩) 19 19) ∧ w'.cell? ⟨V.heap.size, N, none⟩ = some (.string F) ∧ Gr V w'))
    (cu : ∀ V, Bl w V → Calls Tryd.prog 52 #[.string F, .slice A n c] V (RuL V A (l, E)))
    (hk : ∀ v ∈ l, v.k = 0 ∨ v.k = 1 ∨ v.k = 2 ∨ v.k = 3) (hl2 : l.length ≤ 2) (hAb : ∀ z, A.map (·.block) = some z → z < w.heap.size ∨ ∀ v ∈ l, v.b = [])
    (hsl : (setL (oQ N id) 0 l).s.size ≤ 1000000) (hop : (setL (oQ N id) 0 l).op = N)
    (ha0 : mayQ (setL (oQ N id) 0 l) = true) :
    Calls Tryd.prog 17 #[.agg #[.int .i64 N, .int .i64 id, .slice A n c]] w (DecQ w (fun k => A.map (·.block) = some k) (setL (oQ N id) 0 l, 0)) := by
  subst hE
  replace hsl := Lib.hid hsl
  replace hop := Lib.hid hop
  replace ha0 := Lib.hid ha0
  have hNm : IntKind.i64.wrap (N : Int) = N := IntWalk.i64_in _ (by omega)
  replace hk := Lib.hid hk
  replace hAb := Lib.hid hAb
  have q0 : ¬ (N : Int) < 0 := by omega
  have q18 : ¬ 18 < (N : Int) := by omega
  have q19 : (N : Int) < 19 := by omega
  have X0 := (At.new w #[.int .i64 N, .int .i64 id, .slice A n c] 24).alloc (.cells #[.int .i64 0, .int .i64 0, .int .i64 0, .int .i64 0, .int .i64 0, .int .i64 0, .int .i64 0, .int .i64 0, .string ⟨#[]⟩, .slice none 0 0] 28)
  have X1 := At.newAt (w := w.alloc (.cells #[.int .i64 N, .int .i64 id, .slice A n c] 24)) (n := w.heap.size + 1) (by simp) #[.int .i64 0, .int .i64 0, .int .i64 0, .int .i64 0, .int .i64 0, .int .i64 0, .int .i64 0, .int .i64 0, .string ⟨#[]⟩, .slice none 0 0] 28
  have G0 : Bl w ((w.alloc (.cells #[.int .i64 N, .int .i64 id, .slice A n c] 24)).alloc (.cells #[.int .i64 0, .int .i64 0, .int .i64 0, .int .i64 0, .int .i64 0, .int .i64 0, .int .i64 0, .int .i64 0, .string ⟨#[]⟩, .slice none 0 0] 28)) := ((Bl.refl w).alloc _).alloc _
  have hz0 : w.heap.size + 2 ≤ ((w.alloc (.cells #[.int .i64 N, .int .i64 id, .slice A n c] 24)).alloc (.cells #[.int .i64 0, .int .i64 0, .int .i64 0, .int .i64 0, .int .i64 0, .int .i64 0, .int .i64 0, .int .i64 0, .string ⟨#[]⟩, .slice none 0 0] 28)).heap.size := by simp
  go_enter Tryd.func17, Tryd.ntmps17
  go_wp2
  generalize ((w.alloc (.cells #[.int .i64 N, .int .i64 id, .slice A n c] 24)).alloc (.cells #[.int .i64 0, .int .i64 0, .int .i64 0, .int .i64 0, .int .i64 0, .int .i64 0, .int .i64 0, .int .i64 0, .string ⟨#[]⟩, .slice none 0 0] 28)) = w0 at *
  have SK : ∀ V, Bl w0 V → V.cell? ⟨w.heap.size, 0, none⟩ = some (.int .i64 N) ∧ V.cell? ⟨w.heap.size, 2, none⟩ = some (.slice A n c) ∧ Bl w0 V := fun V g => ⟨((X0.bl g).cell 0).trans rfl, ((X0.bl g).cell 2).trans rfl, g⟩
  replace SK := Lib.hid SK
  refine wp_region_held_drew (S := fun V => V.cell? ⟨w.heap.size, 0, none⟩ = some (.int .i64 N) ∧ V.cell? ⟨w.heap.size, 2, none⟩ = some (.slice A n c) ∧ Bl w0 V) (by kernel_rfl) (SK.out _ (Bl.refl w0).drew) (fun hHeld => ?_)
  refine wpAnyH_take (i := 1) (v := ?_) rfl (by kernel_rfl) (by kernel_rfl) (by kernel_rfl) (fun _ _ _ h => h) (Or.inl ⟨by rfl, ?hy1⟩) (by assumption) ?rest1
  case hy1 => intro w' hSw; (try dsimp only at hSw); go_simp; (try with_reducible rfl)
  simp only [Act.put, List.setIfInBounds_toArray]
  refine wpAnyH_take (i := 2) (v := ?_) rfl (by kernel_rfl) (by kernel_rfl) (by kernel_rfl) (fun _ _ _ h => h) (Or.inl ⟨by rfl, ?hy2⟩) (by assumption) ?rest2
  case hy2 => intro w' hSw; (try dsimp only at hSw); go_simp; (try with_reducible rfl)
  simp only [Act.put]
  refine wpAnyH_take (i := 5) (v := ?_) rfl (by kernel_rfl) (by kernel_rfl) (by kernel_rfl) (fun _ _ _ h => h) (Or.inl ⟨by rfl, ?hy5⟩) (by assumption) ?rest5
  case hy5 => intro w' hSw; (try dsimp only at hSw); go_simp; (try with_reducible rfl)
  simp only [Act.put]
  refine wpAnyH_take (i := 6) (v := ?_) rfl (by kernel_rfl) (by kernel_rfl) (by kernel_rfl) (fun _ _ _ h => h) (Or.inl ⟨by rfl, ?hy6⟩) (by assumption) ?rest6
  case hy6 => intro w' hSw; (try dsimp only at hSw); go_simp; (try with_reducible rfl)
  simp only [Act.put]
  refine wpAnyH_ready (rs := [0]) (by kernel_rfl) (by simp) (AllReadyH.cons rfl (fun K9 hK9 => ?_) AllReadyH.nil)
  go_simp
  refine (cf _).mono ?_
  rintro e V8 ⟨rfl, hF8, g8⟩
  have hF9 : V8.cell? ⟨w0.heap.size, N, none⟩ = some (.string F) := hF8
  have G8 : Bl w0 V8 := (Bl.refl w0).drew.gr g8
  have hS1 := SK.out V8 G8
  dsimp only
  refine hK9.out _ _ (hS1) (fun _ => ?_)
  clear hK9 K9
  try simp only [Act.put]
  refine wpAnyH_take (i := 3) (v := ?_) rfl (by kernel_rfl) (by kernel_rfl) (by kernel_rfl) (fun _ _ _ h => h) (Or.inl ⟨by rfl, ?hy3⟩) (by assumption) ?rest3
  case hy3 => intro w' hSw; (try dsimp only at hSw); go_simp; (try with_reducible rfl)
  simp only [Act.put]
  refine wpAnyH_ready (rs := [4]) (by kernel_rfl) (by simp) (AllReadyH.cons rfl (fun K9 hK9 => ?_) AllReadyH.nil)
  go_simp
  refine hK9.out _ _ (hS1) (fun _ => ?_)
  clear hK9 K9
  try simp only [Act.put]
  refine wpAnyH_ready (rs := [7]) (by kernel_rfl) (by simp) (AllReadyH.cons rfl (fun K9 hK9 => ?_) AllReadyH.nil)
  go_simp
  refine (cu _ (G0.trans G8)).mono ?_
  rintro e w2 ⟨A', c', X, rfl, hmap, hV, hsv, g9⟩
  dsimp only at hmap
  have G9 : Bl w0 w2 := G8.trans g9
  have hS2 := SK.out w2 G9
  dsimp only
  refine hK9.out _ _ (hS2) (fun _ => ?_)
  clear hK9 K9
  try simp only [Act.put]
  refine wpAnyH_take (i := 8) (v := ?_) rfl (by kernel_rfl) (by kernel_rfl) (by kernel_rfl) (fun _ _ _ h => h) (Or.inl ⟨by rfl, ?hy8⟩) (by assumption) ?rest8
  case hy8 => intro w' hSw; (try dsimp only at hSw); go_simp; (try with_reducible rfl)
  simp only [Act.put]
  refine wpAnyH_take (i := 9) (v := ?_) rfl (by kernel_rfl) (by kernel_rfl) (by kernel_rfl) (fun _ _ _ h => h) (Or.inl ⟨by rfl, ?hy9⟩) (by assumption) ?rest9
  case hy9 => intro w' hSw; (try dsimp only at hSw); go_simp; (try with_reducible rfl)
  simp only [Act.put]
  refine wpAnyH_take (i := 10) (v := ?_) rfl (by kernel_rfl) (by kernel_rfl) (by kernel_rfl) (fun _ _ _ h => h) (Or.inl ⟨by rfl, ?hy10⟩) (by assumption) ?rest10
  case hy10 => intro w' hSw; (try dsimp only at hSw); go_simp; (try with_reducible rfl)
  simp only [Act.put]
  refine wpAnyH_take (i := 11) (v := ?_) rfl (by kernel_rfl) (by kernel_rfl) (by kernel_rfl) (fun _ _ _ h => h) (Or.inl ⟨by rfl, ?hy11⟩) (by assumption) ?rest11
  case hy11 => intro w' hSw; (try dsimp only at hSw); go_simp; (try with_reducible rfl)
  simp only [Act.put]
  refine wpAnyH_take (i := 12) (v := ?_) rfl (by kernel_rfl) (by kernel_rfl) (by kernel_rfl) (fun _ _ _ h => h) (Or.inl ⟨by rfl, ?hy12⟩) (by assumption) ?rest12
  case hy12 => intro w' hSw; (try dsimp only at hSw); go_simp; (try with_reducible rfl)
  simp only [Act.put, List.getElem_toArray, List.getElem_cons_succ, List.getElem_cons_zero]
  refine wpAnyH_done (by kernel_rfl) ?_ _
  have G3 : Bl w w2 := G0.trans G9
  have hxl : X.length = l.length := by rw [← hmap, List.length_map]
  have hsv2 : ∀ p ∈ X, Sv w2 p.2 p.1.b := fun p hp => (hsv p hp).1.bl g9
  have hdd : ∀ p ∈ X, p.1.b = [] ∨ ∀ z, p.2.ownBlock = some z → A.map (·.block) = some z ∧ z < w.heap.size := fun p hp => by
    by_cases h0 : p.1.b = []
    · exact .inl h0
    · exact .inr fun z hz => ⟨(hsv p hp).2 z hz, (hAb.out z ((hsv p hp).2 z hz)).resolve_right (fun h => h0 (h p.1 (by rw [← hmap]; exact List.mem_map_of_mem hp)))⟩
  have X03 := X0.bl G9
  have X13 := X1.bl G9
  have hz2 : w.heap.size + 2 ≤ w2.heap.size := by have := G9.size; omega
  clear hAb hF8 hF9 g8 g9 G8 G9 hsv X0 X1 SK hS1 hS2
  obtain ⟨nx, hnx⟩ : ∃ nx, nx = X.length := ⟨_, rfl⟩
  rw [← hnx] at hxl ⊢
  have hnx2 : nx ≤ 2 := by omega
  have hYf := hV.far
  have hV3 := hV.bl ((Bl.refl w2).alloc (.cells #[.int .i64 N, .int .i64 id, .int .i64 0, .int .i64 0, .int .i64 0, .int .i64 0, .int .i64 0, .int .i64 0, .string ⟨#[]⟩, .slice none 0 0] 28))
  have X04 := X03.alloc (.cells #[.int .i64 N, .int .i64 id, .int .i64 0, .int .i64 0, .int .i64 0, .int .i64 0, .int .i64 0, .int .i64 0, .string ⟨#[]⟩, .slice none 0 0] 28)
  have X14 := X13.alloc (.cells #[.int .i64 N, .int .i64 id, .int .i64 0, .int .i64 0, .int .i64 0, .int .i64 0, .int .i64 0, .int .i64 0, .string ⟨#[]⟩, .slice none 0 0] 28)
  have L0 := X03.lt
  have L1 := X13.lt
  have a0 : w2.cell? ⟨w.heap.size, 0, none⟩ = some (.int .i64 N) := (X03.cell 0).trans rfl
  have a1 : w2.cell? ⟨w.heap.size, 1, none⟩ = some (.int .i64 id) := (X03.cell 1).trans rfl
  replace hYf := Lib.hid hYf
  replace hV3 := Lib.hid hV3
  replace hnx := Lib.hid hnx
  replace hxl := Lib.hid hxl
  replace hmap := Lib.hid hmap
  replace hsv2 := Lib.hid hsv2
  replace hdd := Lib.hid hdd
  clear X03 X13 hV
  have hsz3 := G3.size
  go_wp2
  clear a0 a1
  go_loopw [7] (fun i wr => ∃ k rk dk, k ≤ nx ∧ i = .int .i64 ((k : Nat) : Int) ∧ Hid (rk = setL (oQ N id) 0 (l.take k)) ∧ At wr w2.heap.size (c10 rk dk) 28 ∧ IsQ wr (fun z => A.map (·.block) = some z ∧ z < w.heap.size) rk dk ∧ World.grownBy (w2.alloc (.cells #[.int .i64 N, .int .i64 id, .int .i64 0, .int .i64 0, .int .i64 0, .int .i64 0, .int .i64 0, .int .i64 0, .string ⟨#[]⟩, .slice none 0 0] 28)) wr (some w2.heap.size) ∧ Bl w wr) (fun i _ => nx - (intOf i).toNat)
  case atStart => exact ⟨0, oQ N id, .slice none 0 0, Nat.zero_le _, rfl, Lib.hid rfl, At.new w2 _ _, IsQ.bare _ _ _ _, By.refl _ _, G3.alloc _⟩
  case round =>
    obtain ⟨k, rk, dk, hkn, rfl, hrk, hX, hQ, gB, GG⟩ := hrel
    by_cases hlt : k < nx
    · have q1 : (k : Int) < nx := by omega
      have hwsv : ∀ p ∈ X, Sv wr p.2 p.1.b := fun p hp => by
        refine ((hsv2.out p hp).bl ((Bl.refl w2).alloc (.cells #[.int .i64 N, .int .i64 id, .int .i64 0, .int .i64 0, .int .i64 0, .int .i64 0, .int .i64 0, .int .i64 0, .string ⟨#[]⟩, .slice none 0 0] 28))).by gB ?_
        rcases hdd.out p hp with h | h
        · exact .inl h
        · cases ho : p.2.ownBlock with
          | none => exact .inr (.inl ho)
          | some z => exact .inr (.inr fun e => by have := (h z ho).2; rw [ho] at e; have e' : z = w2.heap.size := Option.some.inj e; omega)
      obtain ⟨b, off, p, rfl, hp8, hcells, hpsv⟩ := (hV3.out.by gB hYf.out hwsv).at (k := k) (by rw [← hnx.out]; exact hlt)
      have hpm := List.mem_of_getElem? hp8
      have ha : l[k]? = some p.1 := by rw [← hmap.out, List.getElem?_map, hp8]; rfl
      have hpk := hk.out p.1 (List.mem_of_getElem? ha)
      have hpd := hdd.out p hpm
      have hnext : setA rk k p.1 = setL (oQ N id) 0 (l.take (k + 1)) := by
        rw [take_snoc1 ha, setL_snoc, ← hrk.out, List.length_take, Nat.min_eq_left (by have := hxl.out; omega), Nat.zero_add]
      obtain ⟨F0, F1, F2, F3, F4, F5, F6, F7⟩ := hcells
      clear hwsv hpm ha hp8
      obtain ⟨A0, c0, rfl, _⟩ := hQ.sv
      obtain ⟨⟨pk, pn, ps, px0, py0, px1, py1, pb⟩, pv⟩ := p
      dsimp only at *
      obtain ⟨A1, c1, rfl, hA1⟩ := hpsv
      have hpsv2 : Sv wr (.slice A1 pb.length c1) pb := ⟨A1, c1, rfl, hA1⟩
      have hQ0 := hQ
      replace hQ := Lib.hid hQ
      replace hpsv2 := Lib.hid hpsv2
      replace hpd := Lib.hid hpd
      clear hA1 hQ0
      obtain ⟨rop, rid, ra, rb, rx0, ry0, rx1, ry1, rs, rd⟩ := rk
      dsimp only at *
      have k0 : (wr).cell? ⟨w2.heap.size, 0, none⟩ = some (.int .i64 rop) := (hX.cell 0).trans rfl
      have f0 : (wr).frozen? ⟨w2.heap.size, 0, none⟩ = false := hX.free 0
      have k1 : (wr).cell? ⟨w2.heap.size, 1, none⟩ = some (.int .i64 rid) := (hX.cell 1).trans rfl
      have f1 : (wr).frozen? ⟨w2.heap.size, 1, none⟩ = false := hX.free 1
      have k2 : (wr).cell? ⟨w2.heap.size, 2, none⟩ = some (.int .i64 ra) := (hX.cell 2).trans rfl
      have f2 : (wr).frozen? ⟨w2.heap.size, 2, none⟩ = false := hX.free 2
      have k3 : (wr).cell? ⟨w2.heap.size, 3, none⟩ = some (.int .i64 rb) := (hX.cell 3).trans rfl
      have f3 : (wr).frozen? ⟨w2.heap.size, 3, none⟩ = false := hX.free 3
      have k4 : (wr).cell? ⟨w2.heap.size, 4, none⟩ = some (.int .i64 rx0) := (hX.cell 4).trans rfl
      have f4 : (wr).frozen? ⟨w2.heap.size, 4, none⟩ = false := hX.free 4
      have k5 : (wr).cell? ⟨w2.heap.size, 5, none⟩ = some (.int .i64 ry0) := (hX.cell 5).trans rfl
      have f5 : (wr).frozen? ⟨w2.heap.size, 5, none⟩ = false := hX.free 5
      have k6 : (wr).cell? ⟨w2.heap.size, 6, none⟩ = some (.int .i64 rx1) := (hX.cell 6).trans rfl
      have f6 : (wr).frozen? ⟨w2.heap.size, 6, none⟩ = false := hX.free 6
      have k7 : (wr).cell? ⟨w2.heap.size, 7, none⟩ = some (.int .i64 ry1) := (hX.cell 7).trans rfl
      have f7 : (wr).frozen? ⟨w2.heap.size, 7, none⟩ = false := hX.free 7
      have k8 : (wr).cell? ⟨w2.heap.size, 8, none⟩ = some (.string rs) := (hX.cell 8).trans rfl
      have f8 : (wr).frozen? ⟨w2.heap.size, 8, none⟩ = false := hX.free 8
      have k9 : (wr).cell? ⟨w2.heap.size, 9, none⟩ = some (.slice A0 rd.length c0) := (hX.cell 9).trans rfl
      have f9 : (wr).frozen? ⟨w2.heap.size, 9, none⟩ = false := hX.free 9
      rcases hpk with h | h | h | h
      · subst h
        by_cases hi : k = 0
        · subst hi
          simp only [Nat.zero_mul, Nat.add_zero] at F0 F1 F2 F3 F4 F5 F6 F7
          have e9 : setA ⟨rop, rid, ra, rb, rx0, ry0, rx1, ry1, rs, rd⟩ 0 ⟨0, pn, ps, px0, py0, px1, py1, pb⟩ = ⟨rop, rid, pn, rb, rx0, ry0, rx1, ry1, rs, rd⟩ := by unfold setA; rw [if_pos rfl, if_pos rfl]
          rw [e9] at hnext
          have hX6 : At (wr.setCell ⟨w2.heap.size, 2, none⟩ (.int .i64 pn)) w2.heap.size (c10 (⟨rop, rid, pn, rb, rx0, ry0, rx1, ry1, rs, rd⟩) (.slice A0 rd.length c0)) 28 := by simpa [c10] using (hX.put 2 (.int .i64 pn))
          have hB6 : World.grownBy (w2.alloc (.cells #[.int .i64 N, .int .i64 id, .int .i64 0, .int .i64 0, .int .i64 0, .int .i64 0, .int .i64 0, .int .i64 0, .string ⟨#[]⟩, .slice none 0 0] 28)) (wr.setCell ⟨w2.heap.size, 2, none⟩ (.int .i64 pn)) (some w2.heap.size) := (By.set (p := ⟨w2.heap.size, 2, none⟩) gB (.int .i64 pn))
          have GG6 : Bl w (wr.setCell ⟨w2.heap.size, 2, none⟩ (.int .i64 pn)) := (GG.setCell (p := ⟨w2.heap.size, 2, none⟩) hsz3 (.int .i64 pn))
          have hBs : wr.grownBy (wr.setCell ⟨w2.heap.size, 2, none⟩ (.int .i64 pn)) (some w2.heap.size) := By.set (p := ⟨w2.heap.size, 2, none⟩) (By.refl wr (some w2.heap.size)) (.int .i64 pn)
          have hQ6 : IsQ (wr.setCell ⟨w2.heap.size, 2, none⟩ (.int .i64 pn)) (fun z => A.map (·.block) = some z ∧ z < w.heap.size) (⟨rop, rid, pn, rb, rx0, ry0, rx1, ry1, rs, rd⟩) (.slice A0 rd.length c0) := IsQ.by (⟨hQ.out.sv, hQ.out.dd⟩) hBs (fun z hz => by have := hz.2; omega)
          clear hBs e9
          replace hX6 := Lib.hid hX6
          replace hB6 := Lib.hid hB6
          replace GG6 := Lib.hid GG6
          replace hQ6 := Lib.hid hQ6
          replace hnext := Lib.hid hnext
          go_wp2
          go_roundw
          case rel => exact ⟨0 + 1, ⟨rop, rid, pn, rb, rx0, ry0, rx1, ry1, rs, rd⟩, _, by omega, by go_num, hnext, hX6.out, hQ6.out, hB6.out, GG6.out⟩
          case measure => simp [intOf]; omega
        · have hi1 : ¬ (k : Int) = 0 := by omega
          have e9 : setA ⟨rop, rid, ra, rb, rx0, ry0, rx1, ry1, rs, rd⟩ k ⟨0, pn, ps, px0, py0, px1, py1, pb⟩ = ⟨rop, rid, ra, pn, rx0, ry0, rx1, ry1, rs, rd⟩ := by unfold setA; rw [if_pos rfl, if_neg hi]
          rw [e9] at hnext
          have hX6 : At (wr.setCell ⟨w2.heap.size, 3, none⟩ (.int .i64 pn)) w2.heap.size (c10 (⟨rop, rid, ra, pn, rx0, ry0, rx1, ry1, rs, rd⟩) (.slice A0 rd.length c0)) 28 := by simpa [c10] using (hX.put 3 (.int .i64 pn))
          have hB6 : World.grownBy (w2.alloc (.cells #[.int .i64 N, .int .i64 id, .int .i64 0, .int .i64 0, .int .i64 0, .int .i64 0, .int .i64 0, .int .i64 0, .string ⟨#[]⟩, .slice none 0 0] 28)) (wr.setCell ⟨w2.heap.size, 3, none⟩ (.int .i64 pn)) (some w2.heap.size) := (By.set (p := ⟨w2.heap.size, 3, none⟩) gB (.int .i64 pn))
          have GG6 : Bl w (wr.setCell ⟨w2.heap.size, 3, none⟩ (.int .i64 pn)) := (GG.setCell (p := ⟨w2.heap.size, 3, none⟩) hsz3 (.int .i64 pn))
          have hBs : wr.grownBy (wr.setCell ⟨w2.heap.size, 3, none⟩ (.int .i64 pn)) (some w2.heap.size) := By.set (p := ⟨w2.heap.size, 3, none⟩) (By.refl wr (some w2.heap.size)) (.int .i64 pn)
          have hQ6 : IsQ (wr.setCell ⟨w2.heap.size, 3, none⟩ (.int .i64 pn)) (fun z => A.map (·.block) = some z ∧ z < w.heap.size) (⟨rop, rid, ra, pn, rx0, ry0, rx1, ry1, rs, rd⟩) (.slice A0 rd.length c0) := IsQ.by (⟨hQ.out.sv, hQ.out.dd⟩) hBs (fun z hz => by have := hz.2; omega)
          clear hBs e9
          replace hX6 := Lib.hid hX6
          replace hB6 := Lib.hid hB6
          replace GG6 := Lib.hid GG6
          replace hQ6 := Lib.hid hQ6
          replace hnext := Lib.hid hnext
          go_wp2
          go_roundw
          case rel => exact ⟨k + 1, ⟨rop, rid, ra, pn, rx0, ry0, rx1, ry1, rs, rd⟩, _, by omega, by go_num, hnext, hX6.out, hQ6.out, hB6.out, GG6.out⟩
          case measure => simp [intOf]; omega
      · subst h
        have e9 : setA ⟨rop, rid, ra, rb, rx0, ry0, rx1, ry1, rs, rd⟩ k ⟨1, pn, ps, px0, py0, px1, py1, pb⟩ = ⟨rop, rid, ra, rb, rx0, ry0, rx1, ry1, ps, rd⟩ := by unfold setA; rfl
        rw [e9] at hnext
        have hX6 : At (wr.setCell ⟨w2.heap.size, 8, none⟩ (.string ps)) w2.heap.size (c10 (⟨rop, rid, ra, rb, rx0, ry0, rx1, ry1, ps, rd⟩) (.slice A0 rd.length c0)) 28 := by simpa [c10] using (hX.put 8 (.string ps))
        have hB6 : World.grownBy (w2.alloc (.cells #[.int .i64 N, .int .i64 id, .int .i64 0, .int .i64 0, .int .i64 0, .int .i64 0, .int .i64 0, .int .i64 0, .string ⟨#[]⟩, .slice none 0 0] 28)) (wr.setCell ⟨w2.heap.size, 8, none⟩ (.string ps)) (some w2.heap.size) := (By.set (p := ⟨w2.heap.size, 8, none⟩) gB (.string ps))
        have GG6 : Bl w (wr.setCell ⟨w2.heap.size, 8, none⟩ (.string ps)) := (GG.setCell (p := ⟨w2.heap.size, 8, none⟩) hsz3 (.string ps))
        have hBs : wr.grownBy (wr.setCell ⟨w2.heap.size, 8, none⟩ (.string ps)) (some w2.heap.size) := By.set (p := ⟨w2.heap.size, 8, none⟩) (By.refl wr (some w2.heap.size)) (.string ps)
        have hQ6 : IsQ (wr.setCell ⟨w2.heap.size, 8, none⟩ (.string ps)) (fun z => A.map (·.block) = some z ∧ z < w.heap.size) (⟨rop, rid, ra, rb, rx0, ry0, rx1, ry1, ps, rd⟩) (.slice A0 rd.length c0) := IsQ.by (⟨hQ.out.sv, hQ.out.dd⟩) hBs (fun z hz => by have := hz.2; omega)
        clear hBs e9
        replace hX6 := Lib.hid hX6
        replace hB6 := Lib.hid hB6
        replace GG6 := Lib.hid GG6
        replace hQ6 := Lib.hid hQ6
        replace hnext := Lib.hid hnext
        go_wp2
        go_roundw
        case rel => exact ⟨k + 1, ⟨rop, rid, ra, rb, rx0, ry0, rx1, ry1, ps, rd⟩, _, by omega, by go_num, hnext, hX6.out, hQ6.out, hB6.out, GG6.out⟩
        case measure => simp [intOf]; omega
      · subst h
        have e9 : setA ⟨rop, rid, ra, rb, rx0, ry0, rx1, ry1, rs, rd⟩ k ⟨2, pn, ps, px0, py0, px1, py1, pb⟩ = ⟨rop, rid, ra, rb, px0, py0, px1, py1, rs, rd⟩ := by unfold setA; rfl
        rw [e9] at hnext
        have hX6 : At ((((wr.setCell ⟨w2.heap.size, 4, none⟩ (.int .i64 px0)).setCell ⟨w2.heap.size, 5, none⟩ (.int .i64 py0)).setCell ⟨w2.heap.size, 6, none⟩ (.int .i64 px1)).setCell ⟨w2.heap.size, 7, none⟩ (.int .i64 py1)) w2.heap.size (c10 (⟨rop, rid, ra, rb, px0, py0, px1, py1, rs, rd⟩) (.slice A0 rd.length c0)) 28 := by simpa [c10] using ((((hX.put 4 (.int .i64 px0)).put 5 (.int .i64 py0)).put 6 (.int .i64 px1)).put 7 (.int .i64 py1))
        have hB6 : World.grownBy (w2.alloc (.cells #[.int .i64 N, .int .i64 id, .int .i64 0, .int .i64 0, .int .i64 0, .int .i64 0, .int .i64 0, .int .i64 0, .string ⟨#[]⟩, .slice none 0 0] 28)) ((((wr.setCell ⟨w2.heap.size, 4, none⟩ (.int .i64 px0)).setCell ⟨w2.heap.size, 5, none⟩ (.int .i64 py0)).setCell ⟨w2.heap.size, 6, none⟩ (.int .i64 px1)).setCell ⟨w2.heap.size, 7, none⟩ (.int .i64 py1)) (some w2.heap.size) := (By.set (p := ⟨w2.heap.size, 7, none⟩) (By.set (p := ⟨w2.heap.size, 6, none⟩) (By.set (p := ⟨w2.heap.size, 5, none⟩) (By.set (p := ⟨w2.heap.size, 4, none⟩) gB (.int .i64 px0)) (.int .i64 py0)) (.int .i64 px1)) (.int .i64 py1))
        have GG6 : Bl w ((((wr.setCell ⟨w2.heap.size, 4, none⟩ (.int .i64 px0)).setCell ⟨w2.heap.size, 5, none⟩ (.int .i64 py0)).setCell ⟨w2.heap.size, 6, none⟩ (.int .i64 px1)).setCell ⟨w2.heap.size, 7, none⟩ (.int .i64 py1)) := ((((GG.setCell (p := ⟨w2.heap.size, 4, none⟩) hsz3 (.int .i64 px0)).setCell (p := ⟨w2.heap.size, 5, none⟩) hsz3 (.int .i64 py0)).setCell (p := ⟨w2.heap.size, 6, none⟩) hsz3 (.int .i64 px1)).setCell (p := ⟨w2.heap.size, 7, none⟩) hsz3 (.int .i64 py1))
        have hBs : wr.grownBy ((((wr.setCell ⟨w2.heap.size, 4, none⟩ (.int .i64 px0)).setCell ⟨w2.heap.size, 5, none⟩ (.int .i64 py0)).setCell ⟨w2.heap.size, 6, none⟩ (.int .i64 px1)).setCell ⟨w2.heap.size, 7, none⟩ (.int .i64 py1)) (some w2.heap.size) := By.set (p := ⟨w2.heap.size, 7, none⟩) (By.set (p := ⟨w2.heap.size, 6, none⟩) (By.set (p := ⟨w2.heap.size, 5, none⟩) (By.set (p := ⟨w2.heap.size, 4, none⟩) (By.refl wr (some w2.heap.size)) (.int .i64 px0)) (.int .i64 py0)) (.int .i64 px1)) (.int .i64 py1)
        have hQ6 : IsQ ((((wr.setCell ⟨w2.heap.size, 4, none⟩ (.int .i64 px0)).setCell ⟨w2.heap.size, 5, none⟩ (.int .i64 py0)).setCell ⟨w2.heap.size, 6, none⟩ (.int .i64 px1)).setCell ⟨w2.heap.size, 7, none⟩ (.int .i64 py1)) (fun z => A.map (·.block) = some z ∧ z < w.heap.size) (⟨rop, rid, ra, rb, px0, py0, px1, py1, rs, rd⟩) (.slice A0 rd.length c0) := IsQ.by (⟨hQ.out.sv, hQ.out.dd⟩) hBs (fun z hz => by have := hz.2; omega)
        clear hBs e9
        replace hX6 := Lib.hid hX6
        replace hB6 := Lib.hid hB6
        replace GG6 := Lib.hid GG6
        replace hQ6 := Lib.hid hQ6
        replace hnext := Lib.hid hnext
        go_wp2
        go_roundw
        case rel => exact ⟨k + 1, ⟨rop, rid, ra, rb, px0, py0, px1, py1, rs, rd⟩, _, by omega, by go_num, hnext, hX6.out, hQ6.out, hB6.out, GG6.out⟩
        case measure => simp [intOf]; omega
      · subst h
        have e9 : setA ⟨rop, rid, ra, rb, rx0, ry0, rx1, ry1, rs, rd⟩ k ⟨3, pn, ps, px0, py0, px1, py1, pb⟩ = ⟨rop, rid, ra, rb, rx0, ry0, rx1, ry1, rs, pb⟩ := by unfold setA; rfl
        rw [e9] at hnext
        have hX6 : At (wr.setCell ⟨w2.heap.size, 9, none⟩ ((Value.slice A1 pb.length c1))) w2.heap.size (c10 (⟨rop, rid, ra, rb, rx0, ry0, rx1, ry1, rs, pb⟩) (.slice A1 pb.length c1)) 28 := by simpa [c10] using (hX.put 9 ((Value.slice A1 pb.length c1)))
        have hB6 : World.grownBy (w2.alloc (.cells #[.int .i64 N, .int .i64 id, .int .i64 0, .int .i64 0, .int .i64 0, .int .i64 0, .int .i64 0, .int .i64 0, .string ⟨#[]⟩, .slice none 0 0] 28)) (wr.setCell ⟨w2.heap.size, 9, none⟩ ((Value.slice A1 pb.length c1))) (some w2.heap.size) := (By.set (p := ⟨w2.heap.size, 9, none⟩) gB ((Value.slice A1 pb.length c1)))
        have GG6 : Bl w (wr.setCell ⟨w2.heap.size, 9, none⟩ ((Value.slice A1 pb.length c1))) := (GG.setCell (p := ⟨w2.heap.size, 9, none⟩) hsz3 ((Value.slice A1 pb.length c1)))
        have hBs : wr.grownBy (wr.setCell ⟨w2.heap.size, 9, none⟩ ((Value.slice A1 pb.length c1))) (some w2.heap.size) := By.set (p := ⟨w2.heap.size, 9, none⟩) (By.refl wr (some w2.heap.size)) ((Value.slice A1 pb.length c1))
        have hQ6 : IsQ (wr.setCell ⟨w2.heap.size, 9, none⟩ ((Value.slice A1 pb.length c1))) (fun z => A.map (·.block) = some z ∧ z < w.heap.size) (⟨rop, rid, ra, rb, rx0, ry0, rx1, ry1, rs, pb⟩) (.slice A1 pb.length c1) := IsQ.by (⟨hpsv2.out, hpd.out⟩) hBs (fun z hz => by have := hz.2; omega)
        clear hBs e9
        replace hX6 := Lib.hid hX6
        replace hB6 := Lib.hid hB6
        replace GG6 := Lib.hid GG6
        replace hQ6 := Lib.hid hQ6
        replace hnext := Lib.hid hnext
        go_wp2
        go_roundw
        case rel => exact ⟨k + 1, ⟨rop, rid, ra, rb, rx0, ry0, rx1, ry1, rs, pb⟩, _, by omega, by go_num, hnext, hX6.out, hQ6.out, hB6.out, GG6.out⟩
        case measure => simp [intOf]; omega
    · have q1 : ¬ (k : Int) < nx := by omega
      have hkn' : k = nx := by omega
      have hrkR : rk = setL (oQ N id) 0 l := by rw [hrk.out, List.take_of_length_le (by rw [← hxl.out]; omega)]
      have Y1 := X14.grown gB (by simp; omega)
      replace hkn' := Lib.hid hkn'
      clear hV3 hYf X04 X14
      obtain ⟨A0, c0, rfl, _⟩ := hQ.sv
      have cg := fun V => rmayQ1 rk A0 rk.d.length c0 (by rw [hrkR, hop.out]; omega) (by rw [hrkR]; exact hsl.out) V
      rw [show mayQ rk = true by rw [hrkR]; exact ha0.out] at cg
      replace hrkR := Lib.hid hrkR
      have rk0 : (wr).cell? ⟨w2.heap.size, 0, none⟩ = some (.int .i64 rk.op) := (hX.cell 0).trans rfl
      have rf0 : (wr).frozen? ⟨w2.heap.size, 0, none⟩ = false := hX.free 0
      have rk1 : (wr).cell? ⟨w2.heap.size, 1, none⟩ = some (.int .i64 rk.id) := (hX.cell 1).trans rfl
      have rf1 : (wr).frozen? ⟨w2.heap.size, 1, none⟩ = false := hX.free 1
      have rk2 : (wr).cell? ⟨w2.heap.size, 2, none⟩ = some (.int .i64 rk.a) := (hX.cell 2).trans rfl
      have rf2 : (wr).frozen? ⟨w2.heap.size, 2, none⟩ = false := hX.free 2
      have rk3 : (wr).cell? ⟨w2.heap.size, 3, none⟩ = some (.int .i64 rk.b) := (hX.cell 3).trans rfl
      have rf3 : (wr).frozen? ⟨w2.heap.size, 3, none⟩ = false := hX.free 3
      have rk4 : (wr).cell? ⟨w2.heap.size, 4, none⟩ = some (.int .i64 rk.x0) := (hX.cell 4).trans rfl
      have rf4 : (wr).frozen? ⟨w2.heap.size, 4, none⟩ = false := hX.free 4
      have rk5 : (wr).cell? ⟨w2.heap.size, 5, none⟩ = some (.int .i64 rk.y0) := (hX.cell 5).trans rfl
      have rf5 : (wr).frozen? ⟨w2.heap.size, 5, none⟩ = false := hX.free 5
      have rk6 : (wr).cell? ⟨w2.heap.size, 6, none⟩ = some (.int .i64 rk.x1) := (hX.cell 6).trans rfl
      have rf6 : (wr).frozen? ⟨w2.heap.size, 6, none⟩ = false := hX.free 6
      have rk7 : (wr).cell? ⟨w2.heap.size, 7, none⟩ = some (.int .i64 rk.y1) := (hX.cell 7).trans rfl
      have rf7 : (wr).frozen? ⟨w2.heap.size, 7, none⟩ = false := hX.free 7
      have rk8 : (wr).cell? ⟨w2.heap.size, 8, none⟩ = some (.string rk.s) := (hX.cell 8).trans rfl
      have rf8 : (wr).frozen? ⟨w2.heap.size, 8, none⟩ = false := hX.free 8
      have rk9 : (wr).cell? ⟨w2.heap.size, 9, none⟩ = some (.slice A0 rk.d.length c0) := (hX.cell 9).trans rfl
      have rf9 : (wr).frozen? ⟨w2.heap.size, 9, none⟩ = false := hX.free 9
      go_wp2_with fail
      refine (cg _).mono ?_
      rintro e w7 ⟨rfl, g7⟩
      have U1 := Y1.bl g7
      have GG7 := GG.trans g7
      have hX7 := hX.bl g7
      clear rk0 rf0 rk1 rf1 rk2 rf2 rk3 rf3 rk4 rf4 rk5 rf5 rk6 rf6 rk7 rf7 rk8 rf8 rk9 rf9
      have k0 : (w7).cell? ⟨w.heap.size + 1, 0, none⟩ = some (.int .i64 0) := (U1.cell 0).trans rfl
      have f0 : (w7).frozen? ⟨w.heap.size + 1, 0, none⟩ = false := U1.free 0
      have k1 : (w7).cell? ⟨w.heap.size + 1, 1, none⟩ = some (.int .i64 0) := (U1.cell 1).trans rfl
      have f1 : (w7).frozen? ⟨w.heap.size + 1, 1, none⟩ = false := U1.free 1
      have k2 : (w7).cell? ⟨w.heap.size + 1, 2, none⟩ = some (.int .i64 0) := (U1.cell 2).trans rfl
      have f2 : (w7).frozen? ⟨w.heap.size + 1, 2, none⟩ = false := U1.free 2
      have k3 : (w7).cell? ⟨w.heap.size + 1, 3, none⟩ = some (.int .i64 0) := (U1.cell 3).trans rfl
      have f3 : (w7).frozen? ⟨w.heap.size + 1, 3, none⟩ = false := U1.free 3
      have k4 : (w7).cell? ⟨w.heap.size + 1, 4, none⟩ = some (.int .i64 0) := (U1.cell 4).trans rfl
      have f4 : (w7).frozen? ⟨w.heap.size + 1, 4, none⟩ = false := U1.free 4
      have k5 : (w7).cell? ⟨w.heap.size + 1, 5, none⟩ = some (.int .i64 0) := (U1.cell 5).trans rfl
      have f5 : (w7).frozen? ⟨w.heap.size + 1, 5, none⟩ = false := U1.free 5
      have k6 : (w7).cell? ⟨w.heap.size + 1, 6, none⟩ = some (.int .i64 0) := (U1.cell 6).trans rfl
      have f6 : (w7).frozen? ⟨w.heap.size + 1, 6, none⟩ = false := U1.free 6
      have k7 : (w7).cell? ⟨w.heap.size + 1, 7, none⟩ = some (.int .i64 0) := (U1.cell 7).trans rfl
      have f7 : (w7).frozen? ⟨w.heap.size + 1, 7, none⟩ = false := U1.free 7
      have k8 : (w7).cell? ⟨w.heap.size + 1, 8, none⟩ = some (.string ⟨#[]⟩) := (U1.cell 8).trans rfl
      have f8 : (w7).frozen? ⟨w.heap.size + 1, 8, none⟩ = false := U1.free 8
      have k9 : (w7).cell? ⟨w.heap.size + 1, 9, none⟩ = some (.slice none 0 0) := (U1.cell 9).trans rfl
      have f9 : (w7).frozen? ⟨w.heap.size + 1, 9, none⟩ = false := U1.free 9
      have rk0 : (w7).cell? ⟨w2.heap.size, 0, none⟩ = some (.int .i64 rk.op) := (hX7.cell 0).trans rfl
      have rf0 : (w7).frozen? ⟨w2.heap.size, 0, none⟩ = false := hX7.free 0
      have rk1 : (w7).cell? ⟨w2.heap.size, 1, none⟩ = some (.int .i64 rk.id) := (hX7.cell 1).trans rfl
      have rf1 : (w7).frozen? ⟨w2.heap.size, 1, none⟩ = false := hX7.free 1
      have rk2 : (w7).cell? ⟨w2.heap.size, 2, none⟩ = some (.int .i64 rk.a) := (hX7.cell 2).trans rfl
      have rf2 : (w7).frozen? ⟨w2.heap.size, 2, none⟩ = false := hX7.free 2
      have rk3 : (w7).cell? ⟨w2.heap.size, 3, none⟩ = some (.int .i64 rk.b) := (hX7.cell 3).trans rfl
      have rf3 : (w7).frozen? ⟨w2.heap.size, 3, none⟩ = false := hX7.free 3
      have rk4 : (w7).cell? ⟨w2.heap.size, 4, none⟩ = some (.int .i64 rk.x0) := (hX7.cell 4).trans rfl
      have rf4 : (w7).frozen? ⟨w2.heap.size, 4, none⟩ = false := hX7.free 4
      have rk5 : (w7).cell? ⟨w2.heap.size, 5, none⟩ = some (.int .i64 rk.y0) := (hX7.cell 5).trans rfl
      have rf5 : (w7).frozen? ⟨w2.heap.size, 5, none⟩ = false := hX7.free 5
      have rk6 : (w7).cell? ⟨w2.heap.size, 6, none⟩ = some (.int .i64 rk.x1) := (hX7.cell 6).trans rfl
      have rf6 : (w7).frozen? ⟨w2.heap.size, 6, none⟩ = false := hX7.free 6
      have rk7 : (w7).cell? ⟨w2.heap.size, 7, none⟩ = some (.int .i64 rk.y1) := (hX7.cell 7).trans rfl
      have rf7 : (w7).frozen? ⟨w2.heap.size, 7, none⟩ = false := hX7.free 7
      have rk8 : (w7).cell? ⟨w2.heap.size, 8, none⟩ = some (.string rk.s) := (hX7.cell 8).trans rfl
      have rf8 : (w7).frozen? ⟨w2.heap.size, 8, none⟩ = false := hX7.free 8
      have rk9 : (w7).cell? ⟨w2.heap.size, 9, none⟩ = some (.slice A0 rk.d.length c0) := (hX7.cell 9).trans rfl
      have rf9 : (w7).frozen? ⟨w2.heap.size, 9, none⟩ = false := hX7.free 9
      go_wp2
      clear k0 f0 k1 f1 k2 f2 k3 f3 k4 f4 k5 f5 k6 f6 k7 f7 k8 f8 k9 f9 rk0 rf0 rk1 rf1 rk2 rf2 rk3 rf3 rk4 rf4 rk5 rf5 rk6 rf6 rk7 rf7 rk8 rf8 rk9 rf9
      have hBy := put10_by (b := w.heap.size + 1) (By.refl w7 _) (.int .i64 rk.op) (.int .i64 rk.id) (.int .i64 rk.a) (.int .i64 rk.b) (.int .i64 rk.x0) (.int .i64 rk.y0) (.int .i64 rk.x1) (.int .i64 rk.y1) (.string rk.s) (.slice A0 rk.d.length c0)
      have hQ7 := (hQ.bl g7).by hBy (fun z hz => by have := hz.2; omega)
      replace hQ7 := Lib.hid hQ7
      clear hBy
      have Y := put10_at U1 (.int .i64 rk.op) (.int .i64 rk.id) (.int .i64 rk.a) (.int .i64 rk.b) (.int .i64 rk.x0) (.int .i64 rk.y0) (.int .i64 rk.x1) (.int .i64 rk.y1) (.string rk.s) (.slice A0 rk.d.length c0)
      have GY := put10_bl (b := w.heap.size + 1) GG7 (by omega) (.int .i64 rk.op) (.int .i64 rk.id) (.int .i64 rk.a) (.int .i64 rk.b) (.int .i64 rk.x0) (.int .i64 rk.y0) (.int .i64 rk.x1) (.int .i64 rk.y1) (.string rk.s) (.slice A0 rk.d.length c0)
      generalize ((((((((((w7.setCell ⟨w.heap.size + 1, 0, none⟩ (.int .i64 rk.op)).setCell ⟨w.heap.size + 1, 1, none⟩ (.int .i64 rk.id)).setCell ⟨w.heap.size + 1, 2, none⟩ (.int .i64 rk.a)).setCell ⟨w.heap.size + 1, 3, none⟩ (.int .i64 rk.b)).setCell ⟨w.heap.size + 1, 4, none⟩ (.int .i64 rk.x0)).setCell ⟨w.heap.size + 1, 5, none⟩ (.int .i64 rk.y0)).setCell ⟨w.heap.size + 1, 6, none⟩ (.int .i64 rk.x1)).setCell ⟨w.heap.size + 1, 7, none⟩ (.int .i64 rk.y1)).setCell ⟨w.heap.size + 1, 8, none⟩ (.string rk.s)).setCell ⟨w.heap.size + 1, 9, none⟩ (.slice A0 rk.d.length c0)) = VV at *
      have d0 : VV.cell? ⟨w.heap.size + 1, 0, none⟩ = some (.int .i64 rk.op) := (Y.cell 0).trans rfl
      have d1 : VV.cell? ⟨w.heap.size + 1, 1, none⟩ = some (.int .i64 rk.id) := (Y.cell 1).trans rfl
      have d2 : VV.cell? ⟨w.heap.size + 1, 2, none⟩ = some (.int .i64 rk.a) := (Y.cell 2).trans rfl
      have d3 : VV.cell? ⟨w.heap.size + 1, 3, none⟩ = some (.int .i64 rk.b) := (Y.cell 3).trans rfl
      have d4 : VV.cell? ⟨w.heap.size + 1, 4, none⟩ = some (.int .i64 rk.x0) := (Y.cell 4).trans rfl
      have d5 : VV.cell? ⟨w.heap.size + 1, 5, none⟩ = some (.int .i64 rk.y0) := (Y.cell 5).trans rfl
      have d6 : VV.cell? ⟨w.heap.size + 1, 6, none⟩ = some (.int .i64 rk.x1) := (Y.cell 6).trans rfl
      have d7 : VV.cell? ⟨w.heap.size + 1, 7, none⟩ = some (.int .i64 rk.y1) := (Y.cell 7).trans rfl
      have d8 : VV.cell? ⟨w.heap.size + 1, 8, none⟩ = some (.string rk.s) := (Y.cell 8).trans rfl
      have d9 : VV.cell? ⟨w.heap.size + 1, 9, none⟩ = some (.slice A0 rk.d.length c0) := (Y.cell 9).trans rfl
      exact bodyPost_ret (v := .tuple #[.agg #[.int .i64 rk.op, .int .i64 rk.id, .int .i64 rk.a, .int .i64 rk.b, .int .i64 rk.x0, .int .i64 rk.y0, .int .i64 rk.x1, .int .i64 rk.y1, .string rk.s, .slice A0 rk.d.length c0], .int .i64 0]) (by simp [results, Tryd.results17, go_sem, d0, d1, d2, d3, d4, d5, d6, d7, d8, d9]) rfl (by rw [← hrkR.out]; exact ⟨.slice A0 rk.d.length c0, rfl, hQ7.out.weak (fun z hz => hz.1), GY⟩)
set_option maxRecDepth 100000 in
set_option maxHeartbeats 2000000 in
theorem rdec1 (m : Ms) (A : Option Addr) (c : Nat) (w : World) (hA : RwB w A m.body) (hn : A = none → c = 0) (hle : m.body.length ≤ c) (hcm : c ≤ maxLen) (hb : ByL m.body) (hl : m.body.length ≤ 1000000) :
    Calls Tryd.prog 17 #[.agg #[.int .i64 m.op, .int .i64 m.id, .slice A m.body.length c]] w (DecQ w (fun k => A.map (·.block) = some k) (decR m)) := by
  by_cases ho : 0 ≤ m.op ∧ m.op ≤ 18
  case neg => exact rdec0 m A c w ho
  obtain ⟨op, id, L⟩ := m
  dsimp only at *
  obtain ⟨N, rfl⟩ : ∃ N : Nat, op = N := ⟨op.toNat, by omega⟩
  have hN : N < 19 := by omega
  have e : decR ⟨N, id, L⟩ = decU N id (unR (fmL N) L) := by
    unfold decR
    rw [if_pos ho]; rfl
  rw [e]
  clear e
  have cf := fun V => (forms1 V).mono (R' := fun e w' => e = .returned (.slice (some ⟨V.heap.size, 0, none⟩) 19 19) ∧ w'.cell? ⟨V.heap.size, N, none⟩ = some (.string (fmS N)) ∧ Gr V w') (fun e w' h => ⟨h.1, (h.2.1.cell N).trans (formsC_at N hN), h.2.2⟩)
  have cu := fun V (g : Bl w V) => runpackL1 (fmS N) A c L V (by have := (fmL_ok hN).2.2.1; show (fmL N).length ≤ 1000; omega) (hA.bl g) hb hl hn hle hcm
  rw [fmS_list] at cu
  have hk := unR_kind (fmL N) L
  have hul := unR_len (fmL N) L
  have hu2 : (unR (fmL N) L).1.length ≤ 2 := by have := (fmL_ok hN).2.2.1; omega
  have hus := unR_s (fmL N) L 1000000 hl
  have hAb : ∀ z, A.map (·.block) = some z → z < w.heap.size ∨ ∀ v ∈ (unR (fmL N) L).1, v.b = [] := fun z hz => by
    rcases hA with h | ⟨b, off, rfl, hr⟩
    · rw [h]; exact .inr (unR_b0 _)
    · cases L with
      | nil => exact .inr (unR_b0 _)
      | cons x L =>
        left
        have := World.block_lt_of_cell? _ _ (hr 0 x rfl)
        have e' : b = z := by simpa using hz
        rw [← e']; exact this
  generalize unR (fmL N) L = u at *
  generalize fmS N = F at *
  generalize L.length = n at *
  obtain ⟨l, E⟩ := u
  dsimp only at *
  have hsl : (setL (oQ N id) 0 l).s.size ≤ 1000000 := setL_s l _ _ _ (by simp [oQ, ByteArray.size]) hus
  have hid := setL_id l (oQ N id) 0
  unfold decU
  dsimp only
  by_cases hE : E = 0
  case neg =>
    rw [if_neg hE]
    exact rdec_short N n hN id A c w F l E hE cf cu hk hu2 hAb
  rw [if_pos hE]
  cases ha : mayQ (setL (oQ N id) 0 l) with
  | false =>
    rw [if_neg (by simp)]
    exact rdec_no N n hN id A c w F l E hE cf cu hk hu2 hAb hsl hid.1 ha
  | true =>
    rw [if_pos rfl]
    exact rdec_ok N n hN id A c w F l E hE cf cu hk hu2 hAb hsl hid.1 ha

end Go.Proofs.YthkbenhlhldglaaDoor
