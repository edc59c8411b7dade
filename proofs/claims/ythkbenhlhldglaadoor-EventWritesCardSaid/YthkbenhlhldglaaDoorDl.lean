/-
  What is proved: what as, of, lives of the statements' package, Same of the document's, Count of package event hand back. Conditions: bounds; the table of shapes (lives).
-/
import Derived.Test.YthkbenhlhldglaaDoorDf
import Derived.Deep.RegionHeld3
namespace Go.Proofs.YthkbenhlhldglaaDoor
open Go.RowKit Go.Sort

instance (x y : Ev) : Decidable (x = y) :=
  decidable_of_iff (x.k = y.k ∧ x.id = y.id ∧ x.a = y.a ∧ x.b = y.b) (by
    obtain ⟨a, b, c, d⟩ := x
    obtain ⟨a', b', c', d'⟩ := y
    simp)
instance : DecidableEq Ev := fun _ _ => inferInstance
theorem Es.one {w : World} {g : Nat} {e : Ev} {t : TypeId} (h : At w g #[.int .i64 e.k, .int .i64 e.id, .int .i64 e.a, .int .i64 e.b] t) : Es w (some ⟨g, 0, none⟩) [e] := by
  refine .inr ⟨g, 0, rfl, fun k r hk j u hj => ?_⟩
  have hk0 : k = 0 := by
    cases k with
    | zero => rfl
    | succ k => simp at hk
  subst hk0
  simp at hk
  subst hk
  simp only [Nat.zero_add, Nat.zero_mul]
  rw [h.cell j, ← hj]
  have hj4 : j < 4 := by
    rcases Nat.lt_or_ge j 4 with h' | h'
    · exact h'
    · rw [List.getElem?_eq_none (by rw [c4e_len]; exact h')] at hj; cases hj
  have : j = 0 ∨ j = 1 ∨ j = 2 ∨ j = 3 := by omega
  rcases this with rfl | rfl | rfl | rfl <;> rfl
theorem Es.oneAt {w : World} {b off : Nat} {L : List Ev} {k : Nat} {e : Ev} (h : RowEv w b off L) (he : L[k]? = some e) : Es w (some ⟨b, off + k * 4, none⟩) [e] := by
  refine .inr ⟨b, off + k * 4, rfl, fun i r hi j u hj => ?_⟩
  have hi0 : i = 0 := by
    cases i with
    | zero => rfl
    | succ i => simp at hi
  subst hi0
  simp at hi
  subst hi
  rw [Nat.zero_mul, Nat.add_zero]
  exact h k e he j u hj
/-- A row of events that was made. -/
def MkE (t : TypeId) (w : World) (L : List Ev) (x : Ending) (w' : World) : Prop := ∃ A c, x = .returned (.slice A L.length c) ∧ OwEv t w' w.heap.size A c L ∧ Bl w w'
theorem ow_snocE {t : TypeId} {w : World} {B : Nat} {A : Option Addr} {c : Nat} {M : List Ev} {e : Ev} (h : w.ownsRow B t 4 (.slice A (M.length + 1) c) (M.length + 1) (cEv M ++ [.int .i64 e.k, .int .i64 e.id, .int .i64 e.a, .int .i64 e.b])) : OwEv t w B A c (M ++ [e]) := by
  unfold OwEv; rw [cEv_app, List.length_append]; show w.ownsRow B t 4 _ _ (cEv M ++ (c4e e ++ [])); rw [List.append_nil]; exact h
set_option maxRecDepth 100000 in
set_option maxHeartbeats 4000000 in
theorem asE1 (A0 : Option Addr) (c0 : Nat) (L0 : List Ev) (w : World) (h0 : Es w A0 L0) (hl : L0.length ≤ 1000000) : Calls Tryd.prog 35 #[.slice A0 L0.length c0] w (MkE 62 w L0) := by
  obtain ⟨n, hn⟩ : ∃ n, n = L0.length := ⟨_, rfl⟩
  have hz : ∀ A c M V, M = L0 → OwEv 62 V w.heap.size A c M → Bl w V → MkE 62 w L0 (.returned (.slice A M.length c)) V := fun A c M V h h1 h2 => by
    subst h; exact ⟨A, c, rfl, h1, h2⟩
  rw [← hn] at hl ⊢
  generalize MkE 62 w L0 = Z at *
  replace hz := Lib.hid hz
  replace hn := Lib.hid hn
  go_enter Tryd.func35, Tryd.ntmps35
  go_wp2
  go_loopw [3, 4] (fun o i wr => ∃ (k : Nat) (A : Option Addr) (c : Nat) (M : List Ev), k ≤ n ∧ o = .slice A M.length c ∧ i = .int .i64 ((k : Nat) : Int) ∧ OwEv 62 wr w.heap.size A c M ∧ Bl w wr ∧ Hid (M = L0.take k) ∧ Hid (M.length = k)) (fun _ i _ => n - (intOf i).toNat)
  case atStart => exact ⟨0, none, 0, [], Nat.zero_le _, rfl, rfl, OwEv.nil _ _ _, Bl.refl _, Lib.hid rfl, Lib.hid rfl⟩
  case round =>
    obtain ⟨k, A, c, M, hk, rfl, rfl, own, G, hM, hMk⟩ := hrel
    have hMl : M.length ≤ 1000000 := by have := hMk.out; omega
    by_cases hlt : k < n
    · have q1 : (k : Int) < n := by omega
      obtain ⟨b, off, e, rfl, he, hc⟩ := h0.at (k := k) (by rw [← hn.out]; exact hlt)
      have hnx : M ++ [e] = L0.take (k + 1) := by rw [take_snocE he, hM.out]
      replace hnx := Lib.hid hnx
      obtain ⟨ek, eid, ea, eb⟩ := e
      have SK : ∀ V, Bl w V → V.cell? ⟨b, off + k * 4, none⟩ = some (.int .i64 ek) ∧ V.cell? ⟨b, off + k * 4 + 1, none⟩ = some (.int .i64 eid) ∧ V.cell? ⟨b, off + k * 4 + 2, none⟩ = some (.int .i64 ea) ∧ V.cell? ⟨b, off + k * 4 + 3, none⟩ = some (.int .i64 eb) ∧ Bl w V := fun V g => ⟨(hc.bl g).h0, (hc.bl g).h1, (hc.bl g).h2, (hc.bl g).h3, g⟩
      have own' : ∀ V, Bl wr V → OwEv 62 V w.heap.size A c M := fun V g => own.bl g
      replace SK := Lib.hid SK
      replace own' := Lib.hid own'
      clear he hc h0 own
      go_wp2
      go_region_held3 (fun V => V.cell? ⟨b, off + k * 4, none⟩ = some (.int .i64 ek) ∧ V.cell? ⟨b, off + k * 4 + 1, none⟩ = some (.int .i64 eid) ∧ V.cell? ⟨b, off + k * 4 + 2, none⟩ = some (.int .i64 ea) ∧ V.cell? ⟨b, off + k * 4 + 3, none⟩ = some (.int .i64 eb) ∧ Bl w V) ((refine SK.out _ ?_; repeat (first | with_reducible assumption | with_reducible exact G2 | with_reducible apply Bl.drew | with_reducible apply Bl.alloc))) ((first | (refine step_app_gen Tryd.underlying60 infoRe rfl (by decide) (by decide) (by rfl) (.tmp 11) (.tmp 33) (by rfl) A M.length c (cEv M) (by rfl) w.heap.size (own'.out _ (by repeat (first | with_reducible exact Bl.refl _ | with_reducible apply Bl.drew | with_reducible apply Bl.alloc))) (some ⟨wr.heap.size, 0, none⟩) 1 1 [.int .i64 ek, .int .i64 eid, .int .i64 ea, .int .i64 eb] (by rfl) (by simp) (by simp) (by first | exact News.at 1 (At.new _ _ _) | exact News.at 1 ((At.new _ _ _).drew)) (c4e_one ⟨ek, eid, ea, eb⟩) (by omega) (by have := G.size; simp; omega) ?_; intro A2 c2 w2 own2 by2 _; have G2 : Bl w w2 := app_bl by2 (by repeat (first | with_reducible assumption | with_reducible apply Bl.drew | with_reducible apply Bl.alloc)) (ow_lies (own'.out _ (by repeat (first | with_reducible exact Bl.refl _ | with_reducible apply Bl.drew | with_reducible apply Bl.alloc)))) (Nat.le_refl _)) | fail))
      go_wp2
      go_roundw
      case rel => exact ⟨k + 1, A2, c2, M ++ [⟨ek, eid, ea, eb⟩], by omega, by simp, by go_num, ow_snocE own2, G2, hnx, by have := hMk.out; exact Lib.hid (by simp; omega)⟩
      case measure => simp [intOf]; omega
    · obtain rfl : k = n := by omega
      have q1 : ¬ (k : Int) < k := by omega
      have hML : M = L0 := by rw [hM.out, List.take_of_length_le (by rw [← hn.out]; omega)]
      have ex := Lib.hid (hz.out A c M wr hML own G)
      clear hz hML
      go_wp2
      exact ex.out
set_option maxRecDepth 100000 in
set_option maxHeartbeats 4000000 in
theorem ofE1 (A0 : Option Addr) (c0 : Nat) (L0 : List Ev) (w : World) (h0 : Es w A0 L0) (hl : L0.length ≤ 1000000) : Calls Tryd.prog 29 #[.slice A0 L0.length c0] w (MkE 65 w L0) := by
  obtain ⟨n, hn⟩ : ∃ n, n = L0.length := ⟨_, rfl⟩
  have hz : ∀ A c M V, M = L0 → OwEv 65 V w.heap.size A c M → Bl w V → MkE 65 w L0 (.returned (.slice A M.length c)) V := fun A c M V h h1 h2 => by
    subst h; exact ⟨A, c, rfl, h1, h2⟩
  rw [← hn] at hl ⊢
  generalize MkE 65 w L0 = Z at *
  replace hz := Lib.hid hz
  replace hn := Lib.hid hn
  go_enter Tryd.func29, Tryd.ntmps29
  go_wp2
  go_loopw [3, 4] (fun o i wr => ∃ (k : Nat) (A : Option Addr) (c : Nat) (M : List Ev), k ≤ n ∧ o = .slice A M.length c ∧ i = .int .i64 ((k : Nat) : Int) ∧ OwEv 65 wr w.heap.size A c M ∧ Bl w wr ∧ Hid (M = L0.take k) ∧ Hid (M.length = k)) (fun _ i _ => n - (intOf i).toNat)
  case atStart => exact ⟨0, none, 0, [], Nat.zero_le _, rfl, rfl, OwEv.nil _ _ _, Bl.refl _, Lib.hid rfl, Lib.hid rfl⟩
  case round =>
    obtain ⟨k, A, c, M, hk, rfl, rfl, own, G, hM, hMk⟩ := hrel
    have hMl : M.length ≤ 1000000 := by have := hMk.out; omega
    by_cases hlt : k < n
    · have q1 : (k : Int) < n := by omega
      obtain ⟨b, off, e, rfl, he, hc⟩ := h0.at (k := k) (by rw [← hn.out]; exact hlt)
      have hnx : M ++ [e] = L0.take (k + 1) := by rw [take_snocE he, hM.out]
      replace hnx := Lib.hid hnx
      obtain ⟨ek, eid, ea, eb⟩ := e
      have SK : ∀ V, Bl w V → V.cell? ⟨b, off + k * 4, none⟩ = some (.int .i64 ek) ∧ V.cell? ⟨b, off + k * 4 + 1, none⟩ = some (.int .i64 eid) ∧ V.cell? ⟨b, off + k * 4 + 2, none⟩ = some (.int .i64 ea) ∧ V.cell? ⟨b, off + k * 4 + 3, none⟩ = some (.int .i64 eb) ∧ Bl w V := fun V g => ⟨(hc.bl g).h0, (hc.bl g).h1, (hc.bl g).h2, (hc.bl g).h3, g⟩
      have own' : ∀ V, Bl wr V → OwEv 65 V w.heap.size A c M := fun V g => own.bl g
      replace SK := Lib.hid SK
      replace own' := Lib.hid own'
      clear he hc h0 own
      go_wp2
      go_region_held3 (fun V => V.cell? ⟨b, off + k * 4, none⟩ = some (.int .i64 ek) ∧ V.cell? ⟨b, off + k * 4 + 1, none⟩ = some (.int .i64 eid) ∧ V.cell? ⟨b, off + k * 4 + 2, none⟩ = some (.int .i64 ea) ∧ V.cell? ⟨b, off + k * 4 + 3, none⟩ = some (.int .i64 eb) ∧ Bl w V) ((refine SK.out _ ?_; repeat (first | with_reducible assumption | with_reducible exact G2 | with_reducible apply Bl.drew | with_reducible apply Bl.alloc))) ((first | (refine step_app_gen Tryd.underlying66 infoEv rfl (by decide) (by decide) (by rfl) (.tmp 11) (.tmp 33) (by rfl) A M.length c (cEv M) (by rfl) w.heap.size (own'.out _ (by repeat (first | with_reducible exact Bl.refl _ | with_reducible apply Bl.drew | with_reducible apply Bl.alloc))) (some ⟨wr.heap.size, 0, none⟩) 1 1 [.int .i64 ek, .int .i64 eid, .int .i64 ea, .int .i64 eb] (by rfl) (by simp) (by simp) (by first | exact News.at 1 (At.new _ _ _) | exact News.at 1 ((At.new _ _ _).drew)) (c4e_one ⟨ek, eid, ea, eb⟩) (by omega) (by have := G.size; simp; omega) ?_; intro A2 c2 w2 own2 by2 _; have G2 : Bl w w2 := app_bl by2 (by repeat (first | with_reducible assumption | with_reducible apply Bl.drew | with_reducible apply Bl.alloc)) (ow_lies (own'.out _ (by repeat (first | with_reducible exact Bl.refl _ | with_reducible apply Bl.drew | with_reducible apply Bl.alloc)))) (Nat.le_refl _)) | fail))
      go_wp2
      go_roundw
      case rel => exact ⟨k + 1, A2, c2, M ++ [⟨ek, eid, ea, eb⟩], by omega, by simp, by go_num, ow_snocE own2, G2, hnx, by have := hMk.out; exact Lib.hid (by simp; omega)⟩
      case measure => simp [intOf]; omega
    · obtain rfl : k = n := by omega
      have q1 : ¬ (k : Int) < k := by omega
      have hML : M = L0 := by rw [hM.out, List.take_of_length_le (by rw [← hn.out]; omega)]
      have ex := Lib.hid (hz.out A c M wr hML own G)
      clear hz hML
      go_wp2
      exact ex.out
set_option maxRecDepth 100000 in
set_option maxHeartbeats 2000000 in
theorem sameE1 (A B : Option Addr) (c d : Nat) (X Y : List Ev) (w : World) (hX : Es w A X) (hY : Es w B Y) (hl : X.length ≤ 1000000) : Calls Tryd.prog 34 #[.slice A X.length c, .slice B Y.length d] w (Rt w (.bool (decide (X = Y)))) := by
  by_cases hlen : X.length = Y.length
  case neg =>
    have hne : ¬ X = Y := fun h => hlen (by rw [h])
    rw [decide_eq_false hne]
    have hn : ((X.length : Int) == (Y.length : Int)) = false := by simp; omega
    generalize X.length = n at *
    generalize Y.length = m at *
    go_enter Tryd.func34, Tryd.ntmps34
    go_wp2
    go_ret
    exact ⟨rfl, Gr.refl _⟩
  case pos =>
    rw [← hlen]
    have zz : ∀ V (Q : Bool), (Q = true ↔ X = Y) → Gr w V → Rt w (.bool (decide (X = Y))) (.returned (.bool Q)) V := fun V Q h g => ⟨by congr 2; rw [Bool.eq_iff_iff, decide_eq_true_iff]; exact h, g⟩
    obtain ⟨n, hn⟩ : ∃ n, n = X.length := ⟨_, rfl⟩
    have hnY : n = Y.length := by omega
    rw [← hn] at hl ⊢
    generalize Rt w (.bool (decide (X = Y))) = Z at *
    replace zz := Lib.hid zz
    replace hn := Lib.hid hn
    replace hnY := Lib.hid hnY
    clear hlen
    go_enter Tryd.func34, Tryd.ntmps34
    go_wp2
    go_loopw [5] (fun i wr => ∃ k : Nat, k ≤ n ∧ i = .int .i64 ((k : Nat) : Int) ∧ Gr w wr ∧ Hid (X.take k = Y.take k)) (fun i _ => n - (intOf i).toNat)
    case atStart => exact ⟨0, Nat.zero_le _, rfl, Gr.refl _, Lib.hid rfl⟩
    case round =>
      obtain ⟨k, hk, rfl, G, hXY⟩ := hrel
      by_cases hlt : k < n
      · have q1 : (k : Int) < n := by omega
        obtain ⟨b, off, e, rfl, he, hc⟩ := (hX.bl G.bl).at (k := k) (by rw [← hn.out]; exact hlt)
        obtain ⟨b2, off2, f, rfl, hf, hd⟩ := (hY.bl G.bl).at (k := k) (by rw [← hnY.out]; exact hlt)
        have yes : e = f → X.take (k + 1) = Y.take (k + 1) := fun h => by rw [take_snocE he, take_snocE hf, hXY.out, h]
        have no : e ≠ f → ∀ V, Gr w V → Z (.returned (.bool false)) V := fun h V g => zz.out V false ⟨fun h' => by simp at h', fun h' => by
          subst h'; rw [he] at hf; exact absurd (Option.some.inj hf) h⟩ g
        have X0 : ∀ (d : Nat) (os : Array Obj), (grow (wr.drewN d) os).cell? ⟨b, off + k * 4, none⟩ = some (.int .i64 e.k) := fun d os => (((Bl.refl wr).drewN d).grow os).keep hc.h0
        have X1 : ∀ (d : Nat) (os : Array Obj), (grow (wr.drewN d) os).cell? ⟨b, off + k * 4 + 1, none⟩ = some (.int .i64 e.id) := fun d os => (((Bl.refl wr).drewN d).grow os).keep hc.h1
        have X2 : ∀ (d : Nat) (os : Array Obj), (grow (wr.drewN d) os).cell? ⟨b, off + k * 4 + 2, none⟩ = some (.int .i64 e.a) := fun d os => (((Bl.refl wr).drewN d).grow os).keep hc.h2
        have X3 : ∀ (d : Nat) (os : Array Obj), (grow (wr.drewN d) os).cell? ⟨b, off + k * 4 + 3, none⟩ = some (.int .i64 e.b) := fun d os => (((Bl.refl wr).drewN d).grow os).keep hc.h3
        have Y0 : ∀ (d : Nat) (os : Array Obj), (grow (wr.drewN d) os).cell? ⟨b2, off2 + k * 4, none⟩ = some (.int .i64 f.k) := fun d os => (((Bl.refl wr).drewN d).grow os).keep hd.h0
        have Y1 : ∀ (d : Nat) (os : Array Obj), (grow (wr.drewN d) os).cell? ⟨b2, off2 + k * 4 + 1, none⟩ = some (.int .i64 f.id) := fun d os => (((Bl.refl wr).drewN d).grow os).keep hd.h1
        have Y2 : ∀ (d : Nat) (os : Array Obj), (grow (wr.drewN d) os).cell? ⟨b2, off2 + k * 4 + 2, none⟩ = some (.int .i64 f.a) := fun d os => (((Bl.refl wr).drewN d).grow os).keep hd.h2
        have Y3 : ∀ (d : Nat) (os : Array Obj), (grow (wr.drewN d) os).cell? ⟨b2, off2 + k * 4 + 3, none⟩ = some (.int .i64 f.b) := fun d os => (((Bl.refl wr).drewN d).grow os).keep hd.h3
        obtain ⟨ek, eid, ea, eb⟩ := e
        obtain ⟨fk, fid, fa, fb⟩ := f
        dsimp only at *
        replace yes := Lib.hid yes
        replace no := Lib.hid no
        replace X0 := Lib.hid X0
        clear he hf hc hd zz
        replace X0 := X0.out
        by_cases h0 : ek = fk
        case neg =>
          have ex := Lib.hid (no.out (fun h => h0 (by injection h)))
          have hne : (ek == fk) = false := by simpa using h0
          clear yes no
          go_wp2
          refine wp_region_quiet_grown (by kernel_rfl) (by kernel_rfl) ?_
          repeat (first | go_big_quiet_step (fail) | quiet_step (fail))
          refine wpQuiet_nil ?_
          intro W2 g8
          replace g8 : Gr _ W2 := g8
          go_wp2
          exact ex.out _ (G.trans g8)
        subst h0
        by_cases h1 : eid = fid
        case neg =>
          have ex := Lib.hid (no.out (fun h => h1 (by injection h)))
          have hne : (eid == fid) = false := by simpa using h1
          clear yes no
          go_wp2
          refine wp_region_quiet_grown (by kernel_rfl) (by kernel_rfl) ?_
          repeat (first | go_big_quiet_step (fail) | quiet_step (fail))
          refine wpQuiet_nil ?_
          intro W2 g8
          replace g8 : Gr _ W2 := g8
          go_wp2
          exact ex.out _ (G.trans g8)
        subst h1
        by_cases h2 : ea = fa
        case neg =>
          have ex := Lib.hid (no.out (fun h => h2 (by injection h)))
          have hne : (ea == fa) = false := by simpa using h2
          clear yes no
          go_wp2
          refine wp_region_quiet_grown (by kernel_rfl) (by kernel_rfl) ?_
          repeat (first | go_big_quiet_step (fail) | quiet_step (fail))
          refine wpQuiet_nil ?_
          intro W2 g8
          replace g8 : Gr _ W2 := g8
          go_wp2
          exact ex.out _ (G.trans g8)
        subst h2
        by_cases h3 : eb = fb
        case neg =>
          have ex := Lib.hid (no.out (fun h => h3 (by injection h)))
          have hne : (eb == fb) = false := by simpa using h3
          clear yes no
          go_wp2
          refine wp_region_quiet_grown (by kernel_rfl) (by kernel_rfl) ?_
          repeat (first | go_big_quiet_step (fail) | quiet_step (fail))
          refine wpQuiet_nil ?_
          intro W2 g8
          replace g8 : Gr _ W2 := g8
          go_wp2
          exact ex.out _ (G.trans g8)
        subst h3
        clear no
        go_wp2
        refine wp_region_quiet_grown (by kernel_rfl) (by kernel_rfl) ?_
        repeat (first | go_big_quiet_step (fail) | quiet_step (fail))
        refine wpQuiet_nil ?_
        intro W2 g8
        replace g8 : Gr _ W2 := g8
        go_wp2
        go_roundw
        case rel => exact ⟨k + 1, by omega, by go_num, G.trans g8, Lib.hid (yes.out trivial)⟩
        case measure => simp [intOf]; omega
      · obtain rfl : k = n := by omega
        have q1 : ¬ (k : Int) < k := by omega
        have e1 : X = Y := by
          have := hXY.out
          rwa [List.take_of_length_le (by rw [← hn.out]; omega), List.take_of_length_le (by rw [← hnY.out]; omega)] at this
        have ex := Lib.hid (zz.out wr true ⟨fun _ => e1, fun _ => rfl⟩ G)
        clear zz e1
        go_wp2
        exact ex.out
/-- How many are of a kind. -/
def cntE (L : List Ev) (kind : Int) : Nat := (L.filter fun e => decide (e.k = kind)).length
theorem cntE_snoc (L : List Ev) (e : Ev) (kind : Int) : cntE (L ++ [e]) kind = cntE L kind + if e.k = kind then 1 else 0 := by
  unfold cntE
  rw [List.filter_append, List.length_append]
  by_cases h : e.k = kind
  · simp [h]
  · simp [h]
theorem cntE_le (L : List Ev) (kind : Int) : cntE L kind ≤ L.length := by unfold cntE; exact List.length_filter_le _ _
set_option maxRecDepth 100000 in
set_option maxHeartbeats 2000000 in
theorem countE1 (A : Option Addr) (c : Nat) (X : List Ev) (kind : Int) (w : World) (hX : Es w A X) (hl : X.length ≤ 1000000) : Calls Tryd.prog 40 #[.slice A X.length c, .int .i64 kind] w (fun x w' => x = .returned (.int .i64 (cntE X kind)) ∧ Bl w w') := by
  obtain ⟨n, hn⟩ : ∃ n, n = X.length := ⟨_, rfl⟩
  rw [← hn] at hl ⊢
  obtain ⟨N, hN⟩ : ∃ N, N = cntE X kind := ⟨_, rfl⟩
  rw [← hN]
  replace hn := Lib.hid hn
  replace hN := Lib.hid hN
  go_enter Tryd.func40, Tryd.ntmps40
  go_wp2
  go_loopw [5, 10] (fun o i wr => ∃ k q : Nat, k ≤ n ∧ o = .int .i64 ((q : Nat) : Int) ∧ i = .int .i64 ((k : Nat) : Int) ∧ Bl w wr ∧ Hid (q = cntE (X.take k) kind) ∧ q ≤ k) (fun _ i _ => n - (intOf i).toNat)
  case atStart => exact ⟨0, 0, Nat.zero_le _, rfl, rfl, Bl.refl _, Lib.hid rfl, Nat.le_refl _⟩
  case round =>
    obtain ⟨k, q, hk, rfl, rfl, G, hq, hqk⟩ := hrel
    by_cases hlt : k < n
    · have q1 : (k : Int) < n := by omega
      obtain ⟨b, off, e, rfl, he, hc⟩ := (hX.bl G).at (k := k) (by rw [← hn.out]; exact hlt)
      have hs := cntE_snoc (X.take k) e kind
      rw [← take_snocE he, ← hq.out] at hs
      obtain ⟨ek, eid, ea, eb⟩ := e
      obtain ⟨F0, F1, F2, F3⟩ := hc
      dsimp only at *
      have G2 := G.alloc (.cells #[.int .i64 ek, .int .i64 eid, .int .i64 ea, .int .i64 eb] 65)
      clear he
      by_cases h : ek = kind
      · rw [if_pos h] at hs
        replace hs := Lib.hid hs
        subst h
        go_wp2
        go_roundw
        case rel => exact ⟨k + 1, q + 1, by omega, by go_num, by go_num, G2, Lib.hid hs.out.symm, by omega⟩
        case measure => simp [intOf]; omega
      · rw [if_neg h] at hs
        replace hs := Lib.hid hs
        have h' : (ek == kind) = false := by simpa using h
        go_wp2
        go_roundw
        case rel => exact ⟨k + 1, q, by omega, by simp, by go_num, G2, Lib.hid hs.out.symm, by omega⟩
        case measure => simp [intOf]; omega
    · obtain rfl : k = n := by omega
      have q1 : ¬ (k : Int) < k := by omega
      have e1 : q = N := by rw [hq.out, hN.out, List.take_of_length_le (by rw [← hn.out]; omega)]
      subst e1
      go_wp2
      go_ret
      exact ⟨rfl, G⟩
set_option maxRecDepth 100000 in
set_option maxHeartbeats 4000000 in
theorem livesE (w : World) (hS : Sh w) : Calls Tryd.prog 36 #[] w fun e w' => e = .returned (.bool true) ∧ Bl w w' := by
  have hb : okE ⟨3, 3, 7, 1⟩ := by decide
  have he : wrB [⟨3, 3, 7, 1⟩] = ([0, 15, 131, 0, 0, 0, 3, 0, 0, 0, 7, 0, 0, 0, 1], 0) := by
    rw [wrB_ok (by intro e h; rw [List.mem_singleton] at h; subst h; exact hb)]
    rfl
  have X := At.new w #[.int .i64 3, .int .i64 3, .int .i64 7, .int .i64 1] 65
  have G0 : Bl w (w.alloc (.cells #[.int .i64 3, .int .i64 3, .int .i64 7, .int .i64 1] 65)) := (Bl.refl w).alloc _
  have cw := evWrite1 (some ⟨w.heap.size, 0, none⟩) 1 [⟨3, 3, 7, 1⟩] _ (hS.bl G0) (Es.one (e := ⟨3, 3, 7, 1⟩) X) (by simp)
  rw [he] at cw
  unfold PackQ at cw
  dsimp only at cw
  go_enter Tryd.func36, Tryd.ntmps36
  go_wp2_with fail
  refine cw.mono ?_
  rintro e w1 ⟨A1, c1, rfl, hs, g1⟩
  clear cw X
  obtain ⟨A2, c2, hv, _, _, _, hr⟩ := hs
  injection hv with hv1 hv2 hv3
  subst hv1 hv3
  have hr2 := hr.bl ((Bl.refl w1).alloc (.cells #[.int .u8 0, .int .u8 15, .int .u8 131, .int .u8 0, .int .u8 0, .int .u8 0, .int .u8 3, .int .u8 0, .int .u8 0, .int .u8 0, .int .u8 7, .int .u8 0, .int .u8 0, .int .u8 0, .int .u8 1] 5))
  have t1 := Sv.text (c := c1) hr
  have t2 := Sv.text (c := c1) hr2
  have t3 := Sv.text (c := 15) (RwB.blk (L := [0, 15, 131, 0, 0, 0, 3, 0, 0, 0, 7, 0, 0, 0, 1]) (At.new w1 #[.int .u8 0, .int .u8 15, .int .u8 131, .int .u8 0, .int .u8 0, .int .u8 0, .int .u8 3, .int .u8 0, .int .u8 0, .int .u8 0, .int .u8 7, .int .u8 0, .int .u8 0, .int .u8 0, .int .u8 1] 5))
  simp only [List.length_cons, List.length_nil, Nat.reduceAdd] at t1 t2 t3
  generalize strOfNums [0, 15, 131, 0, 0, 0, 3, 0, 0, 0, 7, 0, 0, 0, 1] = T at *
  clear hv2 he hr hr2
  go_wp2
  go_ret
  exact ⟨by simp, (G0.trans g1).alloc _⟩

end Go.Proofs.YthkbenhlhldglaaDoor
