/-
  What is proved: what slices.Insert does to a row of keys. Conditions: bounds on lengths.
-/
import Derived.Test.YtgjoipndhlngnaaSkh
import Derived.Shelf.RegionOpenPlain
import Derived.Laws.NewBlocks
import Derived.Lib.Walk
namespace Go.Proofs.Ytgjoipndhlngnaa
open Go.ChangeShapes Go.WideShapes Go.ChangeAt Go.RowKit Go.Joins Go.Sort Go.Deep Go.Shelf Go.Lib


section
variable {P : Program}
theorem wp_copy_runS (w : World) {o : Oper} {a : Act} {K : Act → World → Prop} {Q : Exit → Act → World → Prop} (d s : Operand) (t t' : TypeId)
    (ho : o.op = .call { callee := .builtin .copy, args := #[d, s], argTypes := #[t, t'] }) (v u : Value) (hd : a.eval d = v) (hs : a.eval s = u) {v' : Value} {w' : World}
    (hr : (Builtin.copy_ #[t, t'] o.type #[v, u]).run P w = .ok v' w') (h : K (a.put o.dst v') w') : o.wp P a w K Q := by
  unfold Oper.wp execOp
  simp only [ho, resolve, invoke, builtin, Sem.run_bind, Sem.run_pure, Result.andThen_ok, List.map_toArray, List.map_cons, List.map_nil, hd, hs, hr]
  exact h
theorem wpList_copy_runS (w : World) {ops : Array Oper} {rest : List Oper} {o : Oper} {a : Act} {Q : Exit → Act → World → Prop} (hgd : o.guard = none) (d s : Operand) (t t' : TypeId)
    (ho : o.op = .call { callee := .builtin .copy, args := #[d, s], argTypes := #[t, t'] }) (v u : Value) (hd : a.eval d = v) (hs : a.eval s = u) {v' : Value} {w' : World}
    (hr : (Builtin.copy_ #[t, t'] o.type #[v, u]).run P w = .ok v' w') (h : wpList P ops Q rest (a.put o.dst v') w') : wpList P ops Q (o :: rest) a w :=
  wpList_plain hgd fun _ hK => wp_copy_runS w d s t t' ho v u hd hs hr (hK _ _ h)
theorem step_copy_runS {ops : Array Oper} {o : Oper} {a : Act} {w : World} {K : Act → World → Prop} {Q : Exit → Act → World → Prop} {E : Prop}
    (hg : o.guard = none) (d x : Operand) (dT sT : TypeId) (hop : o.op = Op.call { callee := Callee.builtin Builtin.copy, args := #[d, x], argTypes := #[dT, sT] })
    (v u : Value) (hd : a.eval d = v) (hx : a.eval x = u) {v' : Value} {w' : World} (hr : (Builtin.copy_ #[dT, sT] o.type #[v, u]).run P w = .ok v' w') (hK : K (a.put o.dst v') w') :
    if Region.wanted o (yielded ops a.tmps) = true then Oper.wp P o a w K Q else E := by
  have hw : Region.wanted o (yielded ops a.tmps) = true := by simp [Region.wanted, hg]
  rw [if_pos hw]
  unfold Oper.wp
  simp [execOp, hop, resolve, invoke, builtin, hd, hx, hr, Result.andThen]
  exact hK
end
theorem At.shape {w : World} {b : Nat} {cs : Array Value} {t : TypeId} (h : At w b cs t) : w.shape? b = some (t, cs.size) := by
  unfold At at h
  simp [World.shape?, h]
def InQ (w : World) (B : Nat) (A : Option Addr) (L' : List Ky) (e : Ending) (w' : World) : Prop :=
  ∃ A' c', e = .returned (.slice A' L'.length c') ∧ OwP w' B A' c' L' ∧ w.grownBy w' (A.map (·.block)) ∧ (A'.map (·.block) = A.map (·.block) ∨ ∃ g, A'.map (·.block) = some g ∧ w.heap.size ≤ g)

set_option maxRecDepth 100000 in
set_option maxHeartbeats 2000000 in
/-- At the end. -/
theorem insEnd {w : World} {B c : Nat} {A : Option Addr} {L : List Ky} (h : OwP w B A c L) (hB : B ≤ w.heap.size) (hl : L.length ≤ 100000) (x : Ky) (vb : Nat) (hv : At w vb (kC x) 26) :
    Calls Try.prog 36 #[.slice A L.length c, .int .i64 L.length, .slice (some ⟨vb, 0, none⟩) 1 1] w (InQ w B A (L ++ [x])) := by
  obtain ⟨h1, h2, h3⟩ := h.caps
  have hm' : c ≤ 9223372036854775807 := by unfold maxLen at h2; omega
  have fin : ∀ A' c' w', OwP w' B A' c' (L ++ [x]) → w.grownBy w' (A.map (·.block)) → (A'.map (·.block) = A.map (·.block) ∨ A'.map (·.block) = some w.heap.size) → InQ w B A (L ++ [x]) (.returned (.slice A' (L.length + 1) c')) w' := fun A' c' w' q1 q2 q3 => ⟨A', c', by simp, q1, q2, q3.imp id (fun e => ⟨_, e, Nat.le_refl _⟩)⟩
  replace fin := Lib.hid fin
  have hx := Shp.Rd.new1 (S := shK) hv rfl
  clear h2
  rcases h.lies with rfl | ⟨g, rfl, _, _⟩
  · obtain rfl : c = 0 := h3 rfl
    obtain rfl : L = [] := List.eq_nil_of_length_eq_zero (by omega)
    simp only [List.length_nil] at *
    clear h3 h1
    go_enter Try.func36, Try.ntmps36
    go_wp2_with (at_builtin; refine Shp.wp_app (S := shK) Try.underlying24 infoP rfl (by decide) rfl (.tmp 23) (.tmp 24) rfl none 0 [] rfl B (h) (some ⟨vb, 0, none⟩) 1 [x] rfl (by first | simp | exact hcap) (hx) (by simp) (hB) ?_; intro A5 c5 w5 own5 ap5 lies5)
    go_ret
    exact fin.out A5 c5 w5 own5 ap5 lies5
  · by_cases hcn : c = L.length
    · subst hcn
      go_enter Try.func36, Try.ntmps36
      go_wp2_with (at_builtin; refine Shp.wp_app (S := shK) Try.underlying24 infoP rfl (by decide) rfl (.tmp 23) (.tmp 24) rfl (some ⟨g, 0, none⟩) L.length L rfl B (h) (some ⟨vb, 0, none⟩) 1 [x] rfl (by first | simp | exact hcap) (hx) (by simp; omega) (hB) ?_; intro A5 c5 w5 own5 ap5 lies5)
      go_ret
      exact fin.out A5 c5 w5 own5 ap5 lies5
    · go_enter Try.func36, Try.ntmps36
      go_wp2_with (at_builtin; refine Shp.wp_app (S := shK) Try.underlying24 infoP rfl (by decide) rfl (.tmp 23) (.tmp 24) rfl (some ⟨g, 0, none⟩) c L rfl B (h) (some ⟨vb, 0, none⟩) 1 [x] rfl (by first | simp | exact hcap) (hx) (by simp; omega) (hB) ?_; intro A5 c5 w5 own5 ap5 lies5)
      go_ret
      exact fin.out A5 c5 w5 own5 ap5 lies5


theorem infoP2 : (Try.prog.info? 26).map (·.size) = some 2 := by kernel_rfl
theorem sizeP (w : World) : (Go.sizeOf 26).run Try.prog w = .ok 2 w := by kernel_rfl
theorem ovP {w : World} {vb g : Nat} {cs ds : Array Value} {t u : TypeId} (hv : At w vb cs t) (hg : At w g ds u) (hne : vb ≠ g) (hd : ds.size ≠ 0) (o la ca lb cb : Nat) :
    (callFunc 39 #[.slice (some ⟨vb, 0, none⟩) la ca, .slice (some ⟨g, o, none⟩) lb cb]).run Try.prog w = .ok (.value (.bool false)) w := by
  rw [run_callFunc_extern Try.func39 (by kernel_rfl) (by kernel_rfl) (by kernel_rfl) (e := Extern.SlicesOverlaps.overlaps #[24, 24] #[4]) (by kernel_rfl),
    Lib.run_overlaps_apart w 24 4 26 Try.underlying24 2 sizeP ⟨vb, 0, none⟩ ⟨g, o, none⟩ la ca lb cb hne t u cs.size ds.size hv.shape hg.shape hd (hv.free 0) (hv.free _)]
  rfl
theorem setsL_at {us O P Q xs : List Value} {i : Nat} (hx : xs = P ++ O ++ Q) (hi : i = P.length) (hO : O.length = us.length) : setsL xs i us = P ++ us ++ Q := by
  subst hx hi
  exact setsL_mid us O P Q hO
set_option maxRecDepth 100000 in
set_option maxHeartbeats 4000000 in
/-- In the midst, where there is room. -/
theorem insShift {w : World} {B c g : Nat} {L : List Ky} (h : OwP w B (some ⟨g, 0, none⟩) c L) (hl : L.length ≤ 100000) (i : Nat) (hi : i < L.length) (hc : L.length + 1 ≤ c) (x : Ky) (vb : Nat) (hv : At w vb (kC x) 26) (hne : vb ≠ g) :
    Calls Try.prog 36 #[.slice (some ⟨g, 0, none⟩) L.length c, .int .i64 i, .slice (some ⟨vb, 0, none⟩) 1 1] w (InQ w B (some ⟨g, 0, none⟩) (L.take i ++ [x] ++ L.drop i)) := by
  obtain ⟨sp, hb, hBg, _, hcm, hsp⟩ := h.block
  have hc63 : c ≤ 9223372036854775807 := by unfold maxLen at hcm; omega
  -- the cells
  obtain ⟨D, hD⟩ : ∃ D, D = shK.cs (L.drop i) := ⟨_, rfl⟩
  obtain ⟨P, hP⟩ : ∃ P, P = shK.cs (L.take i) := ⟨_, rfl⟩
  have hPl : P.length = i * 2 := by rw [hP, shK.cs_len, List.length_take, Nat.min_eq_left (by omega)]; rfl
  have hDl : D.length = (L.length - i) * 2 := by rw [hD, shK.cs_len, List.length_drop]; rfl
  have hPD : shK.cs L = P ++ D := by rw [hP, hD, ← shK.cs_app, List.take_append_drop]
  have hspl : 2 ≤ sp.length := by
    rw [hsp]
    have : 1 * 2 ≤ (c - L.length) * 2 := Nat.mul_le_mul_right _ (by omega)
    exact this
  rw [hPD] at hb
  have hDS : D ++ sp = (D ++ sp).take 2 ++ ((D ++ sp).drop 2).take D.length ++ ((D ++ sp).drop 2).drop D.length := by
    rw [List.append_assoc, List.take_append_drop, List.take_append_drop]
  have hO2 : ((D ++ sp).take 2).length = 2 := by rw [List.length_take, List.length_append]; omega
  have hO : (((D ++ sp).drop 2).take D.length).length = D.length := by rw [List.length_take, List.length_drop, List.length_append]; omega
  have hQ : (((D ++ sp).drop 2).drop D.length).length = sp.length - 2 := by rw [List.length_drop, List.length_drop, List.length_append]; omega
  generalize (D ++ sp).take 2 = O2 at *
  generalize ((D ++ sp).drop 2).take D.length = O at *
  generalize ((D ++ sp).drop 2).drop D.length = Q at *
  have s1 : setsL (P ++ D ++ sp) ((i + 1) * 2) D = (P ++ O2) ++ D ++ Q := setsL_at (O := O) (by rw [List.append_assoc, hDS]; simp) (by rw [List.length_append, hPl, hO2]; omega) hO
  have s2 : setsL ((P ++ O2) ++ D ++ Q) (i * 2) (shK.c x) = P ++ shK.c x ++ (D ++ Q) := setsL_at (O := O2) (by simp) (by rw [hPl]) (by rw [hO2]; rfl)
  have b1 := At.puts D ((i + 1) * 2) hb.drew
  rw [s1] at b1
  have b2 := At.puts (shK.c x) (i * 2) b1
  rw [s2] at b2
  have g1 : w.grownBy (w.drew.setCells g ((i + 1) * 2) D) (some g) := By.trans ((Bl.refl w).drew.byr _) (setCells_by D w.drew _)
  have g2 := By.trans g1 (setCells_by (shK.c x) _ (i * 2))
  -- the row behind it
  have hrow : OwP ((w.drew.setCells g ((i + 1) * 2) D).setCells g (i * 2) (shK.c x)) B (some ⟨g, 0, none⟩) c (L.take i ++ [x] ++ L.drop i) := by
    refine Shp.Ow.of (sp := Q) ?_ hBg hcm ?_
    · rw [shK.cs_app, shK.cs_app, shK.cs_one, ← hP, ← hD, List.append_assoc (P ++ shK.c x)]; exact b2
    · rw [shK.cs_app, shK.cs_app, shK.cs_one, ← hP, ← hD]
      simp only [List.length_append, hPl, hDl, hQ, hsp, show (shK.c x).length = 2 from rfl, show shK.n = 2 from rfl]
      omega
  have hlen : (L.take i ++ [x] ++ L.drop i).length = L.length + 1 := by simp; omega
  have fin : InQ w B (some ⟨g, 0, none⟩) (L.take i ++ [x] ++ L.drop i) (.returned (.slice (some ⟨g, 0, none⟩) (L.length + 1) c)) ((w.drew.setCells g ((i + 1) * 2) D).setCells g (i * 2) (shK.c x)) := ⟨_, c, by rw [hlen], hrow, g2, .inl rfl⟩
  have hone : ∀ v ∈ D, v.oneCell' = true := by rw [hD]; exact shK.cs_ones _
  have hallc : ∀ j, j < (L.length + 1) * 2 → (w.cell? ⟨g, j, none⟩).isSome = true := fun j hj => by
    rw [hb.cell, Array.getElem?_eq_getElem (by simp [hPl, hDl]; omega)]; rfl
  have hallf : ∀ j, w.frozen? ⟨g, j, none⟩ = false := fun j => hb.free j
  have hcp1 : ∀ ty dc sc, (Builtin.copy_ #[24, 24] ty #[.slice (some ⟨g, (i + 1) * 2, none⟩) (L.length - i) dc, .slice (some ⟨g, i * 2, none⟩) (L.length + 1 - i) sc]).run Try.prog w.drew = .ok (goInt (L.length - i : Nat)) (w.drew.setCells g ((i + 1) * 2) D) := fun ty dc sc =>
    run_copy_S w.drew _ _ ty 26 2 g ((i + 1) * 2) _ dc ⟨g, i * 2, none⟩ _ sc D (L.length - i) Try.underlying24 infoP2 (by simp only [Nat.min_def]; split <;> omega) hDl
      (fun j v hj => by
        rw [Addr.add_lit]
        show w.cell? _ = _
        rw [hb.cell, List.getElem?_toArray, List.append_assoc, List.getElem?_append_right (by omega), hPl, Nat.add_sub_cancel_left, List.getElem?_append_left (by rcases Nat.lt_or_ge j D.length with h' | h'; exact h'; rw [List.getElem?_eq_none h'] at hj; cases hj)]
        exact hj)
      (fun j hj => hallc _ (by omega)) (fun j hj => hallf _) hone
  have hcp2 : ∀ (W : World), W = w.drew.setCells g ((i + 1) * 2) D → ∀ ty dc, (Builtin.copy_ #[24, 24] ty #[.slice (some ⟨g, i * 2, none⟩) (L.length + 1 - i) dc, .slice (some ⟨vb, 0, none⟩) 1 1]).run Try.prog W = .ok (goInt (1 : Nat)) (W.setCells g (i * 2) (shK.c x)) := fun W hW ty dc => by
    subst hW
    have hv1 : At (w.drew.setCells g ((i + 1) * 2) D) vb (kC x) 26 := hv.grown g1 (by simpa using hne)
    exact run_copy_S _ _ _ ty 26 2 g (i * 2) _ dc ⟨vb, 0, none⟩ _ 1 (shK.c x) 1 Try.underlying24 infoP2 (by simp only [Nat.min_def]; split <;> omega) rfl
      (fun j v hj => by rw [Addr.add_lit, Nat.zero_add, hv1.cell, ← hj]; exact List.getElem?_toArray)
      (fun j hj => by rw [b1.cell, Array.getElem?_eq_getElem (by have : j < 2 := hj; simp [hPl, hO2, hDl]; omega)]; rfl) (fun j hj => b1.free _) (shK.one x)
  have hov : ∀ lb cb, (callFunc 39 #[.slice (some ⟨vb, 0, none⟩) 1 1, .slice (some ⟨g, (i + 1) * 2, none⟩) lb cb]).run Try.prog w = .ok (.value (.bool false)) w := fun lb cb =>
    ovP hv hb hne (by simp [hPl, hDl]; omega) _ 1 1 lb cb
  obtain ⟨W1, hW1⟩ : ∃ W1, W1 = w.drew.setCells g ((i + 1) * 2) D := ⟨_, rfl⟩
  rw [← hW1] at hcp1 fin
  have hcp2' := hcp2 W1 hW1
  obtain ⟨N, hN⟩ : ∃ N, N = L.length := ⟨_, rfl⟩
  rw [← hN] at hcp1 hcp2' fin hi hl hc ⊢
  replace fin := Lib.hid fin
  have hz2 : ¬ ((i : Int) = (N : Int)) := by omega
  have hw1 : IntKind.i64.wrap ((i : Int) + 1) = (i : Int) + 1 := by rw [IntKind.wrap_i64]; omega
  have hw2 : IntKind.i64.wrap ((N : Int) + 1) = (N : Int) + 1 := by rw [IntKind.wrap_i64]; omega
  have htn : ((i : Int) + 1).toNat = i + 1 := by omega
  have htm : ((N : Int) + 1).toNat = N + 1 := by omega
  have hb2 : ¬ (c = i + 1) := by omega
  have hb4 : ¬ (c = i) := by omega
  have hin : i ≤ N := by omega
  have hin1 : i ≤ N + 1 := by omega
  have hb1 : (0 : Int) ≤ (i : Int) + 1 := by omega
  have hb3 : (i : Int) ≤ (N : Int) + 1 := by omega
  have hb5 : ¬ ((c : Int) < (N : Int) + 1) := by omega
  clear hcp2 hallc hallf hone hrow hlen b1 b2 g1 g2 s1 s2 hO2 hO hQ hDS hspl hb hPD hPl hDl hP hD hsp hcm hN hW1 h
  go_enter Try.func36, Try.ntmps36
  go_wp2_with (simp only [hov])

  go_region_law (refine step_copy_runS rfl _ _ 24 24 rfl _ _ (by simp [Act.eval, Act.put]) (by simp [Act.eval, Act.put]) (hcp1 _ _ _) ?_)
  go_wp2_with (at_builtin; refine wpList_copy_runS _ rfl _ _ 24 24 rfl _ _ rfl rfl (hcp2' _ _) ?_)
  go_ret
  exact fin.out

theorem zero_len (n : Nat) : (Builtin.zeroCells (Value.agg #[.int .i64 0, .int .i64 0]).cells n).size = n * 2 := by
  simp [size_zeroCells, Value.cells]
set_option maxRecDepth 100000 in
set_option maxHeartbeats 4000000 in
/-- In the midst, where there is no room. -/
theorem insGrow {w : World} {B c g : Nat} {L : List Ky} (h : OwP w B (some ⟨g, 0, none⟩) c L) (hB : B ≤ w.heap.size) (hl : L.length ≤ 100000) (i : Nat) (hi : i < L.length) (hc : c < L.length + 1) (x : Ky) (vb : Nat) (hv : At w vb (kC x) 26) :
    Calls Try.prog 36 #[.slice (some ⟨g, 0, none⟩) L.length c, .int .i64 i, .slice (some ⟨vb, 0, none⟩) 1 1] w (InQ w B (some ⟨g, 0, none⟩) (L.take i ++ [x] ++ L.drop i)) := by
  obtain ⟨sp, hb, hBg, hnc, hcm, hsp⟩ := h.block
  have hc63 : c ≤ 9223372036854775807 := by unfold maxLen at hcm; omega
  obtain ⟨i0, hi0, hz0, hzs, hzb⟩ := info_parts infoP
  obtain ⟨D, hD⟩ : ∃ D, D = shK.cs (L.drop i) := ⟨_, rfl⟩
  obtain ⟨P, hP⟩ : ∃ P, P = shK.cs (L.take i) := ⟨_, rfl⟩
  have hPl : P.length = i * 2 := by rw [hP, shK.cs_len, List.length_take, Nat.min_eq_left (by omega)]; rfl
  have hDl : D.length = (L.length - i) * 2 := by rw [hD, shK.cs_len, List.length_drop]; rfl
  have hPD : shK.cs L = P ++ D := by rw [hP, hD, ← shK.cs_app, List.take_append_drop]
  rw [hPD] at hb
  have hgw := hb.lt
  have hvw := hv.lt
  have hold : (Builtin.firstCells i0.size i (.slice (some ⟨g, 0, none⟩) i c)).run Try.prog w.drew = .ok P.toArray w.drew := by
    rw [hzs]
    exact run_firstCells_some w.drew 2 i ⟨g, 0, none⟩ i c P hPl (fun j v hj => by
      rw [Addr.add_lit, Nat.zero_add]
      show w.cell? _ = _
      rw [hb.cell, List.getElem?_toArray, List.append_assoc, List.getElem?_append_left (by rcases Nat.lt_or_ge j P.length with h' | h'; exact h'; rw [List.getElem?_eq_none h'] at hj; cases hj)]
      exact hj)
  obtain ⟨N, hN⟩ : ∃ N, N = L.length := ⟨_, rfl⟩
  rw [← hN] at hi hc hl hnc hDl
  have hik : i + (N + 1 - i) = N + 1 := by omega
  have hrz : ∀ ty, (Builtin.append_ #[24, 3] ty #[.slice (some ⟨g, 0, none⟩) i c, .int .i64 ((N : Int) + 1 - (i : Int))]).run Try.prog w =
      .ok (.slice (some ⟨w.heap.size, 0, none⟩) (N + 1) (grownCap w (N + 1) c 26)) (w.drew.alloc (.cells (P.toArray ++ Builtin.zeroCells (Value.agg #[.int .i64 0, .int .i64 0]).cells (N + 1 - i) ++ Builtin.zeroCells (Value.agg #[.int .i64 0, .int .i64 0]).cells (grownCap w (N + 1) c 26 - (N + 1))) 26)) := fun ty => by
    have q := Lib.run_append_grow_zeros w 24 3 ty 26 i0 _ .i64 .i64 Try.underlying24 Try.underlying3 hi0 hz0 (some ⟨g, 0, none⟩) i c P hold (N + 1 - i) (by omega) (by rw [hzs]; decide) (by omega) (by omega) (by rw [hzb]; omega) (by rw [hzb, hik]; exact growslice_fits hc (by omega))
    rw [hik] at q
    rw [show (N : Int) + 1 - (i : Int) = ((N + 1 - i : Nat) : Int) by omega]
    exact q
  obtain ⟨G, hG⟩ : ∃ G, G = grownCap w (N + 1) c 26 := ⟨_, rfl⟩
  have hGn : N + 1 ≤ G := by rw [hG]; exact grownCap_ge w _ _ _
  have hGm : G ≤ maxLen := by rw [hG]; exact grownCap_le_maxLen w (N + 1) c 26 (by unfold maxLen; omega)
  have hG63 : G ≤ 9223372036854775807 := by unfold maxLen at hGm; omega
  rw [← hG] at hrz
  -- the zeros, as a list
  obtain ⟨Z, hZ⟩ : ∃ Z, Z = (Builtin.zeroCells (Value.agg #[.int .i64 0, .int .i64 0]).cells (N + 1 - i)).toList ++ (Builtin.zeroCells (Value.agg #[.int .i64 0, .int .i64 0]).cells (G - (N + 1))).toList := ⟨_, rfl⟩
  have hZl : Z.length = (G - i) * 2 := by rw [hZ, List.length_append, Array.length_toList, Array.length_toList, zero_len, zero_len]; omega
  have hrow0 : P.toArray ++ Builtin.zeroCells (Value.agg #[.int .i64 0, .int .i64 0]).cells (N + 1 - i) ++ Builtin.zeroCells (Value.agg #[.int .i64 0, .int .i64 0]).cells (G - (N + 1)) = (P ++ Z).toArray := by
    apply Array.toList_inj.1
    rw [hZ]; simp
  rw [hrow0] at hrz
  clear hrow0 hZ hold
  obtain ⟨W1, hW1⟩ : ∃ W1, W1 = w.drew.alloc (.cells (P ++ Z).toArray 26) := ⟨_, rfl⟩
  rw [← hW1] at hrz
  have n1 : At W1 w.heap.size (P ++ Z).toArray 26 := by rw [hW1]; exact At.new w.drew _ _
  have gW1 : Bl w W1 := by rw [hW1]; exact (Bl.refl w).drew.alloc _
  have hS : Z = Z.take 2 ++ (Z.drop 2).take D.length ++ (Z.drop 2).drop D.length := by
    rw [List.append_assoc, List.take_append_drop, List.take_append_drop]
  have hO2 : (Z.take 2).length = 2 := by rw [List.length_take]; omega
  have hO : ((Z.drop 2).take D.length).length = D.length := by rw [List.length_take, List.length_drop]; omega
  have hQ : ((Z.drop 2).drop D.length).length = (G - (N + 1)) * 2 := by rw [List.length_drop, List.length_drop]; omega
  generalize Z.take 2 = O2 at *
  generalize (Z.drop 2).take D.length = O at *
  generalize (Z.drop 2).drop D.length = Q at *
  have s1 : setsL (P ++ Z) (i * 2) (shK.c x) = P ++ shK.c x ++ (O ++ Q) := setsL_at (O := O2) (by rw [hS]; simp) (by rw [hPl]) (by rw [hO2]; rfl)
  have s2 : setsL (P ++ shK.c x ++ (O ++ Q)) ((i + 1) * 2) D = (P ++ shK.c x) ++ D ++ Q := setsL_at (O := O) (by simp) (by rw [List.length_append, hPl]; show _ = i * 2 + 2; omega) hO
  have n2 := At.puts (shK.c x) (i * 2) n1
  rw [s1] at n2
  have n3 := At.puts D ((i + 1) * 2) n2.drew
  rw [s2] at n3
  have b2 : ∀ (k : Nat) (us : List Value) (V : World), Bl w V → Bl w (V.setCells w.heap.size k us) := fun k us V q => q.grown (setCells_by us V k) (fun j hj => by cases hj; exact Nat.le_refl _)
  have G2 := b2 (i * 2) (shK.c x) W1 gW1
  have G3 := b2 ((i + 1) * 2) D _ G2.drew
  have hrow : OwP ((W1.setCells w.heap.size (i * 2) (shK.c x)).drew.setCells w.heap.size ((i + 1) * 2) D) B (some ⟨w.heap.size, 0, none⟩) G (L.take i ++ [x] ++ L.drop i) := by
    refine Shp.Ow.of (sp := Q) ?_ hB hGm ?_
    · rw [shK.cs_app, shK.cs_app, shK.cs_one, ← hP, ← hD]; exact n3
    · rw [shK.cs_app, shK.cs_app, shK.cs_one, ← hP, ← hD]
      simp only [List.length_append, hPl, hDl, hQ, show (shK.c x).length = 2 from rfl, show shK.n = 2 from rfl]
      omega
  have hlen : (L.take i ++ [x] ++ L.drop i).length = N + 1 := by simp; omega
  have fin : InQ w B (some ⟨g, 0, none⟩) (L.take i ++ [x] ++ L.drop i) (.returned (.slice (some ⟨w.heap.size, 0, none⟩) (N + 1) G)) ((W1.setCells w.heap.size (i * 2) (shK.c x)).drew.setCells w.heap.size ((i + 1) * 2) D) := ⟨_, G, by rw [hlen], hrow, G3.byr _, .inr ⟨_, rfl, Nat.le_refl _⟩⟩
  have hone : ∀ v ∈ D, v.oneCell' = true := by rw [hD]; exact shK.cs_ones _
  have hcpA : ∀ ty dc, (Builtin.copy_ #[24, 24] ty #[.slice (some ⟨w.heap.size, i * 2, none⟩) (N + 1 - i) dc, .slice (some ⟨vb, 0, none⟩) 1 1]).run Try.prog W1 = .ok (goInt (1 : Nat)) (W1.setCells w.heap.size (i * 2) (shK.c x)) := fun ty dc =>
    run_copy_S _ _ _ ty 26 2 w.heap.size (i * 2) _ dc ⟨vb, 0, none⟩ _ 1 (shK.c x) 1 Try.underlying24 infoP2 (by simp only [Nat.min_def]; split <;> omega) rfl
      (fun j v hj => by rw [Addr.add_lit, Nat.zero_add, (hv.bl gW1).cell, ← hj]; exact List.getElem?_toArray)
      (fun j hj => by rw [n1.cell, Array.getElem?_eq_getElem (by have : j < 2 := hj; simp [hPl, hZl]; omega)]; rfl) (fun j hj => n1.free _) (shK.one x)
  obtain ⟨W2, hW2⟩ : ∃ W2, W2 = W1.setCells w.heap.size (i * 2) (shK.c x) := ⟨_, rfl⟩
  rw [← hW2] at hcpA fin n2 G2
  have hcpB : ∀ ty dc sc, (Builtin.copy_ #[24, 24] ty #[.slice (some ⟨w.heap.size, (i + 1) * 2, none⟩) (N - i) dc, .slice (some ⟨g, i * 2, none⟩) (N - i) sc]).run Try.prog W2.drew = .ok (goInt (N - i : Nat)) (W2.drew.setCells w.heap.size ((i + 1) * 2) D) := fun ty dc sc =>
    run_copy_S _ _ _ ty 26 2 w.heap.size ((i + 1) * 2) _ dc ⟨g, i * 2, none⟩ _ sc D (N - i) Try.underlying24 infoP2 (by simp only [Nat.min_def]; split <;> omega) hDl
      (fun j v hj => by
        rw [Addr.add_lit]
        show W2.cell? _ = _
        rw [(hb.bl G2).cell, List.getElem?_toArray, List.append_assoc, List.getElem?_append_right (by omega), hPl, Nat.add_sub_cancel_left, List.getElem?_append_left (by rcases Nat.lt_or_ge j D.length with h' | h'; exact h'; rw [List.getElem?_eq_none h'] at hj; cases hj)]
        exact hj)
      (fun j hj => by
        show (W2.cell? _).isSome = true
        rw [n2.cell, Array.getElem?_eq_getElem (by simp [hPl, hO, hQ, hDl]; rw [show (shK.c x).length = 2 from rfl]; omega)]; rfl) (fun j hj => n2.free _) hone
  replace fin := Lib.hid fin
  obtain ⟨sz, hsz⟩ : ∃ sz, sz = w.heap.size := ⟨_, rfl⟩
  rw [← hsz] at hrz hcpA hcpB fin
  have hz2 : ¬ ((i : Int) = (N : Int)) := by omega
  have hw1 : IntKind.i64.wrap ((i : Int) + 1) = (i : Int) + 1 := by rw [IntKind.wrap_i64]; omega
  have hw2 : IntKind.i64.wrap ((N : Int) + 1) = (N : Int) + 1 := by rw [IntKind.wrap_i64]; omega
  have hw3 : IntKind.i64.wrap ((N : Int) + 1 - (i : Int)) = (N : Int) + 1 - (i : Int) := by rw [IntKind.wrap_i64]; omega
  have htn : ((i : Int) + 1).toNat = i + 1 := by omega
  have hGi : ¬ (G = i) := by omega
  have hGim : ¬ (G = i + 1) := by omega
  have hci : ¬ (c = i) := by omega
  have hin : i ≤ N := by omega
  have hin1 : i ≤ N + 1 := by omega
  have hb1 : (0 : Int) ≤ (i : Int) + 1 := by omega
  have hb3 : (i : Int) ≤ (N : Int) + 1 := by omega
  have hb5 : (c : Int) < (N : Int) + 1 := by omega
  rw [← hN]
  clear hone hrow hlen n1 n2 n3 b2 G2 G3 gW1 s1 s2 hO2 hO hQ hS hb hPD hPl hDl hP hD hsp hcm hN hW1 hW2 h hG hGn hZl hik hi0 hz0 hzs hzb hsz hGm
  go_enter Try.func36, Try.ntmps36
  go_wp2_with (first
    | (at_builtin; refine Lib.wpList_append_run _ rfl _ _ _ _ rfl _ _ rfl rfl _ _ (hrz _) ?_)
    | (at_builtin; refine wpList_copy_runS _ rfl _ _ 24 24 rfl _ _ rfl rfl (hcpA _ _) ?_))
  go_region_law (refine step_copy_runS rfl _ _ 24 24 rfl _ _ (by simp [Act.eval, Act.put]) (by simp [Act.eval, Act.put]) (hcpB _ _ _) ?_)
  go_wp2
  go_ret
  exact fin.out

end Go.Proofs.Ytgjoipndhlngnaa
