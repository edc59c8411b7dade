/-
  What is proved: what length and value of package args hand back of bytes. No conditions but bounds. what Unpack of package args hands back of any text and any bytes. No conditions but bounds.
-/
import Derived.Test.YthkbenhlhldglaaDoorUk
import Derived.Test.YthkbenhlhldglaaDoorMd
namespace Go.Proofs.YthkbenhlhldglaaDoor
open Go.RowKit Go.Sort

theorem getD_by {L : List Int} (h : ∀ x ∈ L, 0 ≤ x ∧ x ≤ 255) (k : Nat) : 0 ≤ L.getD k 0 ∧ L.getD k 0 ≤ 255 := by
  rw [List.getD_eq_getElem?_getD]
  cases hk : L[k]? with
  | none => simp
  | some x => simpa using h x (List.mem_of_getElem? hk)
theorem RowB.at {w : World} {b off : Nat} {L : List Int} (h : RowB w b off L) {i : Nat} (hi : i < L.length) : w.cell? ⟨b, off + i, none⟩ = some (.int .u8 (L.getD i 0)) := by
  obtain ⟨x, hx⟩ := list_at hi
  rw [h i x hx, List.getD_eq_getElem?_getD, hx]; rfl
set_option maxRecDepth 100000 in
set_option maxHeartbeats 1000000 in
theorem length1 (c : UInt8) (A : Option Addr) (cap : Nat) (L : List Int) (w : World) (hA : RwB w A L) (hb : ∀ x ∈ L, 0 ≤ x ∧ x ≤ 255) (hl : L.length ≤ 1000000) :
    Calls Tryd.prog 72 #[.int .u8 c.toNat, .slice A L.length cap] w (Rt w (.int .i64 (gn c L))) := by
  have cf := fun V => fixed1 c V
  by_cases h0 : c = 105
  · subst h0
    have e : gn 105 L = 4 := by unfold gn; rw [if_pos (.inl rfl)]
    rw [e]
    have e2 : fx 105 = some 4 := rfl
    rw [e2] at cf
    generalize L.length = n at *
    go_enter Tryd.func72, Tryd.ntmps72
    go_wp2_with fail
    refine (cf _).mono ?_
    rintro e w1 ⟨rfl, g1⟩
    go_wp2
    go_ret
    exact ⟨rfl, g1⟩
  · by_cases h1 : c = 117
    · subst h1
      have e : gn 117 L = 4 := by unfold gn; rw [if_pos (.inr rfl)]
      rw [e]
      have e2 : fx 117 = some 4 := rfl
      rw [e2] at cf
      generalize L.length = n at *
      go_enter Tryd.func72, Tryd.ntmps72
      go_wp2_with fail
      refine (cf _).mono ?_
      rintro e w1 ⟨rfl, g1⟩
      go_wp2
      go_ret
      exact ⟨rfl, g1⟩
    · by_cases h2 : c = 114
      · subst h2
        have e : gn 114 L = 16 := by unfold gn; rw [if_neg (by decide), if_pos rfl]
        rw [e]
        have e2 : fx 114 = some 16 := rfl
        rw [e2] at cf
        generalize L.length = n at *
        go_enter Tryd.func72, Tryd.ntmps72
        go_wp2_with fail
        refine (cf _).mono ?_
        rintro e w1 ⟨rfl, g1⟩
        go_wp2
        go_ret
        exact ⟨rfl, g1⟩
      · have e2 : fx c = none := by unfold fx; rw [if_neg (by simp [h0, h1]), if_neg h2]
        rw [e2] at cf
        by_cases h3 : c = 98
        · subst h3
          have e : gn 98 L = L.length := by unfold gn; rw [if_neg (by decide), if_neg (by decide), if_pos rfl]
          rw [e]
          generalize L.length = n at *
          go_enter Tryd.func72, Tryd.ntmps72
          go_wp2_with fail
          refine (cf _).mono ?_
          rintro e w1 ⟨rfl, g1⟩
          go_wp2
          go_ret
          exact ⟨rfl, g1⟩
        · have n3 := ne_of h3
          simp only [UInt8.reduceToNat] at n3
          by_cases hn : L.length = 0
          · have e : gn c L = 1 := by unfold gn; rw [if_neg (by simp [h0, h1]), if_neg h2, if_neg h3, if_pos hn]
            rw [e, hn]
            clear hA hb h0 h1 h2 h3 e2 e
            generalize c.toNat = x at *
            go_enter Tryd.func72, Tryd.ntmps72
            go_wp2_with fail
            refine (cf _).mono ?_
            rintro e w1 ⟨rfl, g1⟩
            go_wp2
            go_ret
            exact ⟨rfl, g1⟩
          · have e : gn c L = 1 + (L.getD 0 0).toNat := by unfold gn; rw [if_neg (by simp [h0, h1]), if_neg h2, if_neg h3, if_neg hn]
            rw [e]
            obtain ⟨b, off, rfl, hr⟩ := hA.opened (by omega)
            have k0 : ∀ V, Gr w V → V.cell? ⟨b, off, none⟩ = some (.int .u8 (L.getD 0 0)) := fun V g => g.bl.keep (by have q := hr.at (i := 0) (by omega); rwa [Nat.add_zero] at q)
            obtain ⟨b0, b1⟩ := getD_by hb 0
            have en : (((1 + (L.getD 0 0).toNat : Nat)) : Int) = 1 + L.getD 0 0 := by omega
            rw [en]
            clear en e e2 h0 h1 h2 h3 hb hr hA
            generalize L.getD 0 0 = y at *
            generalize L.length = n at *
            generalize c.toNat = x at *
            have hn' : ¬ (n : Int) = 0 := by omega
            have hn2 : 0 < n := by omega
            have hn3 : (0 : Int) < n := by omega
            replace k0 := Lib.hid k0
            go_enter Tryd.func72, Tryd.ntmps72
            go_wp2_with fail
            refine (cf _).mono ?_
            rintro e w1 ⟨rfl, g1⟩
            have k1 := k0.out w1 g1
            go_wp2
            go_ret
            exact ⟨rfl, g1⟩


/-- The argument whose bytes these are. -/
def gm (c : UInt8) (M : List Int) : Av :=
  if c = 105 then vI (sg (n4 M)) else if c = 117 then vI (n4 M) else if c = 115 then vS (tx (M.drop 1))
  else if c = 114 then vR (sg (n4 M)) (sg (n4 (M.drop 4))) (sg (n4 (M.drop 8))) (sg (n4 (M.drop 12))) else vB M
theorem getD_take {L : List Int} {n k : Nat} (h : k < n) : (L.take n).getD k 0 = L.getD k 0 := by
  rw [List.getD_eq_getElem?_getD, List.getD_eq_getElem?_getD, List.getElem?_take, if_pos h]
theorem n4_take {L : List Int} {n : Nat} (h : 4 ≤ n) : n4 (L.take n) = n4 L := by
  unfold n4
  rw [getD_take (by omega), getD_take (by omega), getD_take (by omega), getD_take (by omega)]
theorem gm_gv (c : UInt8) (L : List Int) (h : c = 105 ∨ c = 117 ∨ c = 115 ∨ c = 114 ∨ c = 98) (hl : gn c L ≤ L.length) : gm c (L.take (gn c L)) = gv c L := by
  rcases h with rfl | rfl | rfl | rfl | rfl
  · have e : gn 105 L = 4 := rfl
    rw [e]; unfold gm gv; rw [if_pos rfl, if_pos rfl, n4_take (Nat.le_refl _)]
  · have e : gn 117 L = 4 := rfl
    rw [e]; unfold gm gv; rw [if_neg (by decide), if_pos rfl, if_neg (by decide), if_pos rfl, n4_take (Nat.le_refl _)]
  · unfold gm gv
    rw [if_neg (by decide), if_neg (by decide), if_pos rfl, if_neg (by decide), if_neg (by decide), if_pos rfl, List.drop_take]
  · have e : gn 114 L = 16 := rfl
    rw [e]; unfold gm gv
    rw [if_neg (by decide), if_neg (by decide), if_neg (by decide), if_pos rfl, if_neg (by decide), if_neg (by decide), if_neg (by decide), if_pos rfl]
    rw [List.drop_take, List.drop_take, List.drop_take, n4_take (by omega), n4_take (by omega), n4_take (by omega), n4_take (by omega)]
  · have e : gn 98 L = L.length := rfl
    rw [e, List.take_length]; rfl
def ValQ (w : World) (a : Av) (e : Ending) (w' : World) : Prop := ∃ v, e = .returned v ∧ IsA w' v a ∧ (∀ k, vb v = some k → w.heap.size ≤ k ∧ k < w'.heap.size) ∧ Bl w w'

set_option maxRecDepth 100000 in
set_option maxHeartbeats 2000000 in
theorem value1 (c : UInt8) (A : Option Addr) (cap : Nat) (M : List Int) (w : World) (hc : c = 105 ∨ c = 117 ∨ c = 115 ∨ c = 114 ∨ c = 98) (hA : RwB w A M) (hb : ∀ x ∈ M, 0 ≤ x ∧ x ≤ 255) (hl : M.length ≤ 1000000) (hn : A = none → cap = 0) (hle : M.length ≤ cap) (hcap : cap ≤ maxLen)
    (h4 : c = 105 ∨ c = 117 → M.length = 4) (h16 : c = 114 → M.length = 16) (h1 : c = 115 → 0 < M.length) :
    Calls Tryd.prog 73 #[.int .u8 c.toNat, .slice A M.length cap] w (ValQ w (gm c M)) := by
  rcases hc with rfl | rfl | rfl | rfl | rfl
  · have e : gm 105 M = vI (sg (n4 M)) := rfl
    rw [e]
    have h4 := h4 (.inl rfl)
    obtain ⟨b, off, rfl, hr⟩ := hA.opened (by omega)
    have k0 := hr.at (i := 0) (by omega)
    rw [Nat.add_zero] at k0
    have cs := signed0A b off M.length cap _ _ _ _ w k0 (hr.at (i := 1) (by omega)) (hr.at (i := 2) (by omega)) (hr.at (i := 3) (by omega)) (getD_by hb 0) (getD_by hb 1) (getD_by hb 2) (getD_by hb 3) (by omega) (by omega) hle
    change Calls _ _ _ _ (Rt w (.int .i64 (sg (n4 M)))) at cs
    generalize sg (n4 M) = N at *
    rw [h4] at cs ⊢
    clear k0 hr hb hA h4 hl hle h16 h1
    go_enter Tryd.func73, Tryd.ntmps73
    go_wp2_with fail
    refine cs.mono ?_
    rintro e w1 ⟨rfl, g1⟩
    go_wp2
    go_ret
    exact ⟨_, rfl, .inl ⟨rfl, rfl⟩, fun k hk => (by cases hk), g1.bl⟩
  · have e : gm 117 M = vI (n4 M) := rfl
    rw [e]
    have h4 := h4 (.inr rfl)
    obtain ⟨b, off, rfl, hr⟩ := hA.opened (by omega)
    have k0 := hr.at (i := 0) (by omega)
    rw [Nat.add_zero] at k0
    have cs := word0 b off M.length cap _ _ _ _ w k0 (hr.at (i := 1) (by omega)) (hr.at (i := 2) (by omega)) (hr.at (i := 3) (by omega)) (getD_by hb 0) (getD_by hb 1) (getD_by hb 2) (getD_by hb 3) (by omega) (by omega) hle
    change Calls _ _ _ _ (Rt w (.int .u32 (n4 M))) at cs
    have hN : 0 ≤ n4 M ∧ n4 M ≤ 4294967295 := by
      have := getD_by hb 0; have := getD_by hb 1; have := getD_by hb 2; have := getD_by hb 3
      unfold n4; omega
    obtain ⟨hN0, hN1⟩ := hN
    generalize n4 M = N at *
    rw [h4] at cs ⊢
    clear k0 hr hb hA h4 hl hle h16 h1
    go_enter Tryd.func73, Tryd.ntmps73
    go_wp2_with fail
    refine cs.mono ?_
    rintro e w1 ⟨rfl, g1⟩
    go_wp2
    go_ret
    exact ⟨_, rfl, .inl ⟨rfl, rfl⟩, fun k hk => (by cases hk), g1.bl⟩
  · have e : gm 115 M = vS (tx (M.drop 1)) := rfl
    rw [e]
    have h1 := h1 rfl
    have hcm : cap ≤ 9223372036854775807 := by unfold maxLen at hcap; omega
    obtain ⟨b, off, rfl, hr⟩ := hA.opened h1
    by_cases hc1 : cap = 1
    · have hl1 : M.length = 1 := by omega
      have hd : M.drop 1 = [] := List.drop_of_length_le (by omega)
      rw [hd, hl1]
      subst hc1
      have t1 := Sv.text (w := w) (A := some ⟨b, off, none⟩) (c := 0) (L := []) (.inl rfl)
      change _ = Result.ok (Value.string (tx [])) w at t1
      simp only [List.length_nil] at t1
      generalize tx [] = T at *
      clear hr hb hA hle
      go_enter Tryd.func73, Tryd.ntmps73
      go_wp2
      go_ret
      exact ⟨_, rfl, .inr (.inl ⟨rfl, rfl⟩), fun k hk => (by cases hk), Bl.refl w⟩
    · have hdl : (M.drop 1).length = M.length - 1 := List.length_drop
      have t1 := Sv.text (w := w) (A := some ⟨b, off + 1, none⟩) (c := cap - 1) (L := M.drop 1) (.inr ⟨b, off + 1, rfl, hr.drop 1⟩)
      change _ = Result.ok (Value.string (tx (M.drop 1))) w at t1
      rw [hdl] at t1
      generalize tx (M.drop 1) = T at *
      generalize M.length = n at *
      have hn1 : (1 : Int) ≤ n := by omega
      clear hr hb hA
      go_enter Tryd.func73, Tryd.ntmps73
      go_wp2
      go_ret
      exact ⟨_, rfl, .inr (.inl ⟨rfl, rfl⟩), fun k hk => (by cases hk), Bl.refl w⟩
  · have e : gm 114 M = vR (sg (n4 M)) (sg (n4 (M.drop 4))) (sg (n4 (M.drop 8))) (sg (n4 (M.drop 12))) := rfl
    rw [e]
    have h16 := h16 rfl
    obtain ⟨b, off, rfl, hr⟩ := hA.opened (by omega)
    have nd : ∀ j, n4 (M.drop j) = M.getD j 0 * 16777216 + M.getD (j + 1) 0 * 65536 + M.getD (j + 2) 0 * 256 + M.getD (j + 3) 0 := by
      intro j
      unfold n4
      simp only [List.getD_eq_getElem?_getD, List.getElem?_drop, Nat.add_zero]
    rw [nd 4, nd 8, nd 12]
    have ka : ∀ i, i < 16 → ∀ V, Gr w V → V.cell? ⟨b, off + i, none⟩ = some (.int .u8 (M.getD i 0)) := fun i hi V g => g.bl.keep (hr.at (i := i) (by omega))
    have k0 : ∀ V, Gr w V → V.cell? ⟨b, off, none⟩ = some (.int .u8 (M.getD 0 0)) := fun V g => by have q := ka 0 (by omega) V g; rwa [Nat.add_zero] at q
    have c0 := fun V (g : Gr w V) => signed0A b off M.length cap _ _ _ _ V (k0 V g) (ka 1 (by omega) V g) (ka 2 (by omega) V g) (ka 3 (by omega) V g) (getD_by hb 0) (getD_by hb 1) (getD_by hb 2) (getD_by hb 3) (by omega) (by omega) hle
    have c1 := fun V (g : Gr w V) => signed1A b off M.length cap (off + 4) _ _ _ _ V rfl (ka 4 (by omega) V g) (ka 5 (by omega) V g) (ka 6 (by omega) V g) (ka 7 (by omega) V g) (getD_by hb 4) (getD_by hb 5) (getD_by hb 6) (getD_by hb 7) (by omega) (by omega) hle
    have c2 := fun V (g : Gr w V) => signed2A b off M.length cap (off + 8) _ _ _ _ V rfl (ka 8 (by omega) V g) (ka 9 (by omega) V g) (ka 10 (by omega) V g) (ka 11 (by omega) V g) (getD_by hb 8) (getD_by hb 9) (getD_by hb 10) (getD_by hb 11) (by omega) (by omega) hle
    have c3 := fun V (g : Gr w V) => signed3A b off M.length cap (off + 12) _ _ _ _ V rfl (ka 12 (by omega) V g) (ka 13 (by omega) V g) (ka 14 (by omega) V g) (ka 15 (by omega) V g) (getD_by hb 12) (getD_by hb 13) (getD_by hb 14) (getD_by hb 15) (by omega) (by omega) hle
    change ∀ V, Gr w V → Calls _ _ _ _ (Rt V (.int .i64 (sg (n4 M)))) at c0
    generalize sg (n4 M) = N0 at *
    generalize sg (M.getD 4 0 * 16777216 + M.getD (4 + 1) 0 * 65536 + M.getD (4 + 2) 0 * 256 + M.getD (4 + 3) 0) = N1 at *
    generalize sg (M.getD 8 0 * 16777216 + M.getD (8 + 1) 0 * 65536 + M.getD (8 + 2) 0 * 256 + M.getD (8 + 3) 0) = N2 at *
    generalize sg (M.getD 12 0 * 16777216 + M.getD (12 + 1) 0 * 65536 + M.getD (12 + 2) 0 * 256 + M.getD (12 + 3) 0) = N3 at *
    rw [h16] at c0 c1 c2 c3 ⊢
    clear nd ka k0 hr hb hA h16 h4 h1 hl hle
    replace c0 := Lib.hid c0
    replace c1 := Lib.hid c1
    replace c2 := Lib.hid c2
    replace c3 := Lib.hid c3
    go_enter Tryd.func73, Tryd.ntmps73
    go_wp2_with fail
    refine (c0.out _ (Gr.refl w)).mono ?_
    rintro e w1 ⟨rfl, g1⟩
    go_wp2_with fail
    refine (c1.out _ g1).mono ?_
    rintro e w2 ⟨rfl, g2⟩
    go_wp2_with fail
    refine (c2.out _ (g1.trans g2)).mono ?_
    rintro e w3 ⟨rfl, g3⟩
    go_wp2_with fail
    refine (c3.out _ ((g1.trans g2).trans g3)).mono ?_
    rintro e w4 ⟨rfl, g4⟩
    go_wp2
    go_ret
    exact ⟨_, rfl, .inr (.inr (.inl ⟨rfl, rfl⟩)), fun k hk => (by cases hk), (((g1.trans g2).trans g3).trans g4).bl⟩
  · have e : gm 98 M = vB M := rfl
    rw [e]
    have o0 := builtB [] w.heap.size w (by simp) (Nat.le_refl _)
    have hA1 := hA.bl ((Bl.refl w).alloc (.cells #[] 5))
    have hB : w.heap.size ≤ (w.alloc (.cells #[] 5)).heap.size := by simp
    have G0 : Bl w (w.alloc (.cells #[] 5)) := (Bl.refl w).alloc _
    obtain ⟨m, hm⟩ : ∃ m, m = M.length := ⟨_, rfl⟩
    have hml : m ≤ 1000000 := by omega
    rw [← hm]
    replace hm := Lib.hid hm
    clear hb hA h4 h16 h1
    go_enter Tryd.func73, Tryd.ntmps73
    go_wp2_with (at_builtin; refine wp_app_b rfl (.tmp 35) (.tmp 36) rfl (some ⟨w.heap.size, 0, none⟩) 0 [] rfl w.heap.size o0 A M cap (by rw [← hm.out]; rfl) hn hA1 (by simp; omega) hB ?_; intro A2 c2 w2 own2 by2 ad2)
    go_ret
    refine ⟨_, rfl, .inr (.inr (.inr (.inl ⟨rfl, _, rfl, by simpa [vB] using own2.sv⟩))), fun k hk => ?_, app_bl by2 G0 o0.lies (Nat.le_refl _)⟩
    change (Value.slice A2 _ c2).ownBlock = some k at hk
    rw [slice_block] at hk
    rcases own2.lies with rfl | ⟨g, rfl, h1, h2⟩
    · cases hk
    · cases hk; exact ⟨h1, h2⟩

end Go.Proofs.YthkbenhlhldglaaDoor
namespace Go.Proofs.YthkbenhlhldglaaDoor
open Go.RowKit Go.Sort

/-- What Unpack tells. -/
def unR (f : List UInt8) (L : List Int) : List Av × Int := if formB f = true then unA [] f L else ([], 1)
def UnQ (w : World) (r : List Av × Int) (e : Ending) (w' : World) : Prop := ∃ A' c' xs, e = .returned (.tuple #[.slice A' xs.length c', .int .i64 r.2]) ∧ Yv w' A' xs ∧ AllA w' xs r.1 ∧ Bl w w'
theorem UnQ.none {w w' : World} {k : Int} (h : Bl w w') : UnQ w ([], k) (.returned (.tuple #[.slice none 0 0, .int .i64 k])) w' := ⟨Option.none, 0, [], rfl, .inl rfl, .nil, h⟩

/-- The same, and where bytes lie: in memory of its own. -/
def UnL (w : World) (r : List Av × Int) (e : Ending) (w' : World) : Prop := ∃ A' c' xs, e = .returned (.tuple #[.slice A' xs.length c', .int .i64 r.2]) ∧ Yv w' A' xs ∧ AllA w' xs r.1 ∧ (∀ v ∈ xs, ∀ k, vb v = some k → w.heap.size ≤ k ∧ k < w'.heap.size) ∧ Bl w w'
theorem UnL.none {w w' : World} {k : Int} (h : Bl w w') : UnL w ([], k) (.returned (.tuple #[.slice none 0 0, .int .i64 k])) w' := ⟨Option.none, 0, [], rfl, .inl rfl, .nil, fun v hv => by simp at hv, h⟩
theorem UnL.un {w : World} {r : List Av × Int} {e : Ending} {w' : World} (h : UnL w r e w') : UnQ w r e w' := by
  obtain ⟨A', c', xs, h1, h2, h3, _, h4⟩ := h
  exact ⟨A', c', xs, h1, h2, h3, h4⟩

theorem IsA.isIface {w : World} {v : Value} {a : Av} (h : IsA w v a) : ∃ t x, v = .iface t x := by
  rcases h with ⟨_, rfl⟩ | ⟨_, rfl⟩ | ⟨_, rfl⟩ | ⟨_, s, rfl, _⟩ | ⟨_, rfl⟩ <;> exact ⟨_, _, rfl⟩
theorem OwY.low {w : World} {B : Nat} {A : Option Addr} {c : Nat} {L : List Value} (h : OwY w B A c L) : ∀ k, A.map (·.block) = some k → B ≤ k ∧ k < w.heap.size := fun k hk => by
  rcases ow_lies h with rfl | ⟨g, rfl, h1, h2⟩
  · cases hk
  · cases hk; exact ⟨h1, h2⟩

set_option maxRecDepth 100000 in
set_option maxHeartbeats 8000000 in
theorem aunpackL1 (s : ByteArray) (A : Option Addr) (cap : Nat) (L : List Int) (w : World) (hs : s.size ≤ 1000) (hA : RwB w A L) (hb : ∀ x ∈ L, 0 ≤ x ∧ x ≤ 255) (hl : L.length ≤ 1000000) (hn : A = none → cap = 0) (hle : L.length ≤ cap) (hcap : cap ≤ maxLen) :
    Calls Tryd.prog 49 #[.string s, .slice A L.length cap] w (UnL w (unR s.data.toList L)) := by
  have hsz : s.data.toList.length = s.size := rfl
  have cf := fun V => aform1 s V hs
  unfold unR
  cases hf : formB s.data.toList with
  | false =>
    rw [if_neg (by simp)]
    rw [hf] at cf
    generalize L.length = m at *
    go_enter Tryd.func49, Tryd.ntmps49
    go_wp2_with fail
    refine (cf _).mono ?_
    rintro e w1 ⟨rfl, g1⟩
    go_wp2
    go_ret2
    exact .none g1
  | true =>
    rw [if_pos rfl]
    rw [hf] at cf
    have h8 := formB_len hf
    rw [hsz] at h8
    have hmem := formR_mem _ (formB_R hf)
    have hcm : cap ≤ 9223372036854775807 := by unfold maxLen at hcap; omega
    obtain ⟨n, hnn⟩ : ∃ n, n = s.size := ⟨_, rfl⟩
    have hn8 : n ≤ 8 := by omega
    generalize hR : unA [] s.data.toList L = R
    replace hR := Lib.hid hR
    replace hnn := Lib.hid hnn
    replace hsz := Lib.hid hsz
    replace hmem := Lib.hid hmem
    replace hb := Lib.hid hb
    replace hA := Lib.hid hA
    replace hn := Lib.hid hn
    replace hcap := Lib.hid hcap
    clear hf h8 hs
    go_enter Tryd.func49, Tryd.ntmps49
    go_wp2_with fail
    refine (cf _).mono ?_
    rintro e w1 ⟨rfl, g1⟩
    clear cf
    have hsn : (s.size : Int) = n := by rw [hnn.out]
    go_wp2
    replace hsn := Lib.hid hsn
    go_loopw [1, 6, 14] (fun b l i wr => ∃ k Ab cb Lb Al cl xs l', k ≤ n ∧ i = .int .i64 ((k : Nat) : Int) ∧ b = .slice Ab (Lb : List Int).length cb ∧ (Ab = none → cb = 0) ∧ Lb.length ≤ cb ∧ cb ≤ cap ∧ Lb.length ≤ 1000000 ∧ RwB w Ab Lb ∧ Hid (∀ x ∈ Lb, 0 ≤ x ∧ x ≤ 255) ∧
      l = .slice Al (xs : List Value).length cl ∧ OwY wr w.heap.size Al cl xs ∧ AllA wr xs l' ∧ FarY wr (Al.map (·.block)) xs ∧ Bl w wr ∧ xs.length ≤ k ∧ Hid (∀ v ∈ xs, ∀ q, vb v = some q → w.heap.size ≤ q) ∧ Hid (unA l' (s.data.toList.drop k) Lb = R)) (fun _ _ i _ => n - (intOf i).toNat)
    case atStart => exact ⟨0, A, cap, L, none, 0, [], [], Nat.zero_le _, rfl, rfl, hn.out, hle, Nat.le_refl _, hl, hA.out, hb, rfl, OwY.nil _ _, .nil, FarY.nil _ _, g1, Nat.le_refl _, Lib.hid (fun v hv => by simp at hv), hR⟩
    case round =>
      obtain ⟨k, Ab, cb, Lb, Al, cl, xs, l', hk, rfl, rfl, hAb, hcb, hcbc, hLb, hrow, hbb, rfl, own, hall, hfar, G, hxl, hlow, hp⟩ := hrel
      replace hAb := Lib.hid hAb
      by_cases hlt : k < n
      · have q1 : (k : Int) < n := by omega
        have q2 : (k : Int) < (s.size : Int) := by rw [← hnn.out]; exact q1
        have q3 : k < s.size := by rw [← hnn.out]; exact hlt
        have hc := letter_at s q3
        have hm := hmem.out s[k] (List.mem_of_getElem? hc)
        have cl1 := length1 s[k] Ab cb Lb wr (hrow.bl G) hbb.out hLb
        have hstep : ¬ Lb.length < gn s[k] Lb → unA (l' ++ [gv s[k] Lb]) (s.data.toList.drop (k + 1)) (Lb.drop (gn s[k] Lb)) = R := by
          intro h
          rw [← hp.out, drop_at hc]
          simp only [unA]
          rw [if_neg h]
        have hstop : Lb.length < gn s[k] Lb → R = ([], 3) := by
          intro h
          rw [← hp.out, drop_at hc]
          simp only [unA]
          rw [if_pos h]
        obtain ⟨N, hN⟩ : ∃ N, N = gn s[k] Lb := ⟨_, rfl⟩
        rw [← hN] at cl1 hstep hstop
        by_cases hshort : Lb.length < N
        · have hsh : (Lb.length : Int) < N := by omega
          have hz := hstop hshort
          replace hz := Lib.hid hz
          replace hm := Lib.hid hm
          replace hc := Lib.hid hc
          replace hN := Lib.hid hN
          clear hstep hstop
          go_wp2_with fail
          refine cl1.mono ?_
          rintro e w2 ⟨rfl, g2⟩
          go_wp2
          go_ret2
          rw [hz.out]
          exact .none (G.gr g2)
        · have hsh : ¬ (Lb.length : Int) < N := by omega
          have hNl : N ≤ Lb.length := by omega
          have hz := hstep hshort
          have htl : (Lb.take N).length = N := by rw [List.length_take]; omega
          have e4 : s[k] = 105 ∨ s[k] = 117 → N = 4 := fun h => by rw [hN]; unfold gn; rw [if_pos h]
          have e16 : s[k] = 114 → N = 16 := fun h => by rw [hN, h]; rfl
          have e1 : s[k] = 115 → 0 < N := fun h => by
            rw [hN, h]; unfold gn; rw [if_neg (by decide), if_neg (by decide), if_neg (by decide)]
            split <;> omega
          have cv := fun V (g : Bl wr V) => value1 s[k] Ab cb (Lb.take N) V hm ((show RwB wr Ab (Lb.take N) by
              rcases hrow.bl G with h | ⟨b, off, h1, h2⟩
              · left; rw [h]; simp
              · exact .inr ⟨b, off, h1, h2.take N⟩).bl g) (fun x hx => hbb.out x (List.mem_of_mem_take hx)) (by rw [htl]; omega) hAb.out (by rw [htl]; omega) (by have := hcap.out; omega) (by rw [htl]; exact e4) (by rw [htl]; exact e16) (by rw [htl]; exact e1)
          have hgm : gm s[k] (Lb.take N) = gv s[k] Lb := by rw [hN]; exact gm_gv s[k] Lb hm (by omega)
          rw [hgm, htl] at cv
          have hdrop : (Lb.drop N).length = Lb.length - N := List.length_drop
          have hbd : ∀ x ∈ Lb.drop N, 0 ≤ x ∧ x ≤ 255 := fun x hx => hbb.out x (List.mem_of_mem_drop hx)
          have hNi : (N : Int) ≤ Lb.length := by omega
          have hNc : (N : Int) ≤ cb := by omega
          have hcb2 : (cb : Int) ≤ 9223372036854775807 := by omega
          generalize gv s[k] Lb = a at *
          replace hz := Lib.hid hz
          replace hm := Lib.hid hm
          replace hc := Lib.hid hc
          replace hN := Lib.hid hN
          replace hbd := Lib.hid hbd
          replace hdrop := Lib.hid hdrop
          replace cv := Lib.hid cv
          clear hstep hstop hgm htl e4 e16 e1
          have own' := Lib.hid own
          have hfar' := Lib.hid hfar
          have hall' := Lib.hid hall
          clear own hfar hall
          go_wp2_with fail
          refine cl1.mono ?_
          rintro e w2 ⟨rfl, g2⟩
          go_wp2
          go_region_held3 (fun V => Bl w V) (repeat (first | with_reducible assumption | with_reducible exact G2 | with_reducible exact G.gr g2 | with_reducible exact G.trans G9 | with_reducible apply Bl.drew | with_reducible apply Bl.alloc)) ((first | (go_at_call 73; (refine (cv.out _ (by first | with_reducible assumption | with_reducible exact Bl.drew (by assumption) | with_reducible exact g2.bl | with_reducible exact g2.bl.drew)).mono ?_); rintro e V9 ⟨v9, rfl, ha9, hf9, g9⟩; obtain ⟨T9, x9, rfl⟩ := ha9.isIface; have G9 : Bl wr V9 := g2.bl.drew.trans g9) | (refine step_app_gen Tryd.underlying100 infoAny rfl (by decide) (by decide) (by rfl) (.tmp 26) (.tmp 34) (by rfl) Al xs.length cl xs (by rfl) w.heap.size (OwY.bl own'.out (by repeat (first | with_reducible assumption | with_reducible apply Bl.drew | with_reducible apply Bl.alloc))) (some ⟨V9.heap.size, 0, none⟩) 1 1 [.iface T9 x9] (by rfl) (by simp) (by simp) (by first | exact News.at 1 (At.new _ _ _) | exact News.at 1 ((At.new _ _ _).drew)) (by intro u hu; simp at hu; subst hu; exact ha9.one) (by omega) (by have := (G.trans G9).size; simp; omega) ?_; intro A2 c2 w2' own2 by2 ad2; have G2 : Bl w w2' := app_bl by2 ((G.trans G9).alloc _) (ow_lies (OwY.bl own'.out (G9.alloc _))) (Nat.le_refl _)) | fail))
          have own3 : OwY w2' w.heap.size A2 c2 (xs ++ [.iface T9 x9]) := by unfold OwY; rw [List.length_append]; exact own2
          have hsz9 : wr.heap.size ≤ V9.heap.size := G9.size
          have hv9 : ∀ k, vb (.iface T9 x9) = some k → Al.map (·.block) ≠ some k ∧ k < (V9.alloc (.cells #[.iface T9 x9] 20)).heap.size := fun k hk => by
            obtain ⟨h1, h2⟩ := hf9 k hk
            have h3 : wr.heap.size ≤ w2.drew.heap.size := g2.bl.drew.size
            refine ⟨fun e => ?_, by simp; omega⟩
            have := (own'.out.low k e).2
            omega
          have hfarV : FarY (V9.alloc (.cells #[.iface T9 x9] 20)) (Al.map (·.block)) xs := hfar'.out.up (G9.alloc _).size (.inl rfl)
          have hall3 : AllA w2' (xs ++ [.iface T9 x9]) (l' ++ [a]) := ((hall'.out.bl (G9.alloc _)).by by2 hfarV).snoc ((ha9.bl ((Bl.refl V9).alloc _)).by by2 fun k hk => (hv9 k hk).1)
          have hfar3 : FarY w2' (A2.map (·.block)) (xs ++ [.iface T9 x9]) := (hfarV.snoc hv9).up by2.size (by
            rcases ad2 with h | h
            · exact .inl h
            · exact .inr ⟨_, h, Nat.le_refl _⟩)
          have hlow3 : ∀ v ∈ xs ++ [Value.iface T9 x9], ∀ q, vb v = some q → w.heap.size ≤ q := fun v hv q hq => by
            rcases List.mem_append.1 hv with hv | hv
            · exact hlow.out v hv q hq
            · simp at hv; subst hv
              have h1 := (hf9 q hq).1
              have h3 : wr.heap.size ≤ w2.drew.heap.size := g2.bl.drew.size
              have h4 := G.size
              omega
          replace hlow3 := Lib.hid hlow3
          have hxl3 : (xs ++ [Value.iface T9 x9]).length ≤ k + 1 := by simp; omega
          have hx3 : (xs ++ [Value.iface T9 x9]).length = xs.length + 1 := by simp
          replace own3 := Lib.hid own3
          replace hall3 := Lib.hid hall3
          replace hfar3 := Lib.hid hfar3
          replace hxl3 := Lib.hid hxl3
          replace hx3 := Lib.hid hx3
          clear own2 by2 ad2 hv9 hfarV ha9 hf9 g9 G9 own' hfar' hall'
          by_cases hNcb : N = cb
          · have hd0 : Lb.drop N = [] := List.drop_of_length_le (by omega)
            have hd1 : Lb.length - N = 0 := by omega
            have hd2 : cb - N = 0 := by omega
            replace hd0 := Lib.hid hd0
            replace hd1 := Lib.hid hd1
            replace hd2 := Lib.hid hd2
            go_wp2
            go_roundw
            case rel => exact ⟨k + 1, Ab, 0, [], A2, c2, _, _, by omega, by go_num, by rfl, fun _ => rfl, Nat.zero_le _, Nat.zero_le _, Nat.zero_le _, .inl rfl, Lib.hid (fun x hx => by simp at hx), by rw [hx3.out], own3.out, hall3.out, hfar3.out, G2, hxl3.out, hlow3, by rw [← hd0.out]; exact hz⟩
            case measure => simp [intOf]; omega
          · cases Ab with
            | none =>
              have := hAb.out rfl
              omega
            | some ad =>
              go_wp2
              go_roundw
              case rel => exact ⟨k + 1, some (ad.add N), cb - N, Lb.drop N, A2, c2, _, _, by omega, by go_num, by rw [hdrop.out], (fun h => (by cases h)), by rw [hdrop.out]; omega, by omega, by rw [hdrop.out]; omega, (by
                  rcases hrow with h | ⟨b, off, h1, h2⟩
                  · left; rw [h]; simp
                  · cases h1
                    exact .inr ⟨b, off + N, by rw [add_lit'], h2.drop N⟩), hbd, by rw [hx3.out], own3.out, hall3.out, hfar3.out, G2, hxl3.out, hlow3, hz⟩
              case measure => simp [intOf]; omega
      · have q1 : ¬ (k : Int) < n := by omega
        have hkn : k = n := by omega
        have hfin : R = if Lb.length = 0 then (l', 0) else ([], 2) := by
          rw [← hp.out, List.drop_of_length_le (by rw [hsz.out, ← hnn.out]; omega)]
          simp only [unA]
        replace hkn := Lib.hid hkn
        replace hfin := Lib.hid hfin
        by_cases hz : Lb.length = 0
        · rw [hz]
          clear hp
          go_wp2
          go_ret2
          rw [hfin.out, if_pos hz]
          exact ⟨Al, cl, xs, rfl, own.yv, hall, fun v hv q hq => ⟨hlow.out v hv q hq, (hfar v hv q hq).2⟩, G⟩
        · have hz' : (0 : Int) < Lb.length := by omega
          have e : R = ([], 2) := by rw [hfin.out, if_neg hz]
          replace e := Lib.hid e
          clear hp
          go_wp2
          go_ret2
          rw [e.out]
          exact .none G
theorem aunpack1 (s : ByteArray) (A : Option Addr) (cap : Nat) (L : List Int) (w : World) (hs : s.size ≤ 1000) (hA : RwB w A L) (hb : ∀ x ∈ L, 0 ≤ x ∧ x ≤ 255) (hl : L.length ≤ 1000000) (hn : A = none → cap = 0) (hle : L.length ≤ cap) (hcap : cap ≤ maxLen) :
    Calls Tryd.prog 49 #[.string s, .slice A L.length cap] w (UnQ w (unR s.data.toList L)) :=
  (aunpackL1 s A cap L w hs hA hb hl hn hle hcap).mono fun _ _ h => h.un

end Go.Proofs.YthkbenhlhldglaaDoor
