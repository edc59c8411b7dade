/-
  What is proved: the document's Solid of an image.
-/
import Derived.Test.YtmaondghfncjoaaQd
import Derived.Test.YtmaondghfncjoaaIn
import Derived.Test.YtmaondghfncjoaaIb2
namespace Go.Proofs.Ytmaondghfncjoaa
open Go.RowKit Go.Sort Go.Shelf

/-- Is point number i either not in the rectangle or of full alpha? -/
def solP (p r s t : Int) (W : Nat) (L : List Int) (i : Nat) : Bool := !hasB p r s t (i % W : Nat) (i / W : Nat) || (pA (L.getD i 0) == 255)
theorem solP_all {p r s t : Int} {W n : Nat} {L : List Int} : (List.range n).all (solP p r s t W L) = true ↔ ∀ i, i < n → solP p r s t W L i = true := by
  rw [List.all_eq_true]
  exact ⟨fun h i hi => h i (List.mem_range.2 hi), fun h i hi => h i (List.mem_range.1 hi)⟩
theorem solP_no {p r s t : Int} {W n i : Nat} {L : List Int} (hi : i < n) (h : solP p r s t W L i = false) : (List.range n).all (solP p r s t W L) = false := by
  rw [List.all_eq_false]
  exact ⟨i, List.mem_range.2 hi, by rw [h]; simp⟩

theorem solP_step {p r s t : Int} {W k : Nat} {L : List Int} (h : ∀ i, i < k → solP p r s t W L i = true) (hk : solP p r s t W L k = true) : ∀ i, i < k + 1 → solP p r s t W L i = true := fun i hi => by
  by_cases hik : i = k
  · subst hik; exact hk
  · exact h i (by omega)
/-- Both solids say the same. -/
theorem sol_eq {W H x0 x1 y0 y1 : Nat} {p r s t : Int} {L : List Int} (hl : L.length = W * H) (h1 : 1 ≤ W) (hx : x0 ≤ x1) (hw : x1 ≤ W) (hy : y0 ≤ y1)
    (hh : ∀ i j : Nat, i < W → j < H → (hasB p r s t i j = true ↔ x0 ≤ i ∧ i < x1 ∧ y0 ≤ j ∧ j < y1)) :
    allS W x0 x1 L (List.range' y0 (y1 - y0)) = (List.range L.length).all (solP p r s t W L) := by
  rw [Bool.eq_iff_iff, allS_iff (H := H) hl h1 hx hw hy, solP_all]
  have key : ∀ i, i < L.length → i % W < W ∧ i / W < H := fun i hi => by
    obtain ⟨d1, d2, _⟩ := div_of (k := i) (H := H) h1 (by rw [← hl]; exact hi)
    exact ⟨d1, d2⟩
  constructor
  · intro h i hi
    obtain ⟨d1, d2⟩ := key i hi
    have hc : L[i]? = some (L.getD i 0) := by rw [List.getD, List.getElem?_eq_getElem hi]; rfl
    unfold solP
    cases hb : hasB p r s t (i % W : Nat) (i / W : Nat) with
    | false => rfl
    | true => simpa using h i _ hc ((hh _ _ d1 d2).1 hb)
  · intro h i c hc hin
    have hi := (List.getElem?_eq_some_iff.1 hc).1
    obtain ⟨d1, d2⟩ := key i hi
    have h1 := h i hi
    unfold solP at h1
    rw [(hh _ _ d1 d2).2 hin] at h1
    have : L.getD i 0 = c := by simp [List.getD, hc]
    rw [this] at h1
    simpa using h1

set_option maxRecDepth 100000 in
set_option maxHeartbeats 4000000 in
theorem refsolid1 {W H b c : Nat} {L : List Int} (w : World) (hR : RowN .u32 w b 0 L) (hl : L.length = W * H) (h32 : ∀ c ∈ L, C32 c) (w1 : 1 ≤ W) (w2 : W ≤ 256) (h2 : H ≤ 256) (p r s t : Int) :
    Calls Try.prog 25 #[.agg #[.int .i64 W, .int .i64 H, .slice (some ⟨b, 0, none⟩) L.length c], .agg #[.int .i64 p, .int .i64 r, .int .i64 s, .int .i64 t]] w
      (fun e w' => e = .returned (.bool ((List.range L.length).all (solP p r s t W L))) ∧ Gr w w') := by
  have hle := area_le w2 h2
  rw [← hl] at hle
  have hget : ∀ k, k < L.length → L[k]? = some (L.getD k 0) := fun k hk => by rw [List.getD, List.getElem?_eq_getElem hk]; rfl
  obtain ⟨n, hn⟩ : ∃ n, n = L.length := ⟨_, rfl⟩
  rw [← hn] at hle hl hget ⊢
  have hll := Lib.hid hl
  have hgett := Lib.hid hget
  clear hn hl hget
  have G0 := (((Gr.refl w).alloc (.cells #[.int .i64 W, .int .i64 H, .slice (some ⟨b, 0, none⟩) n c] 25)).alloc (.cells #[.int .i64 p, .int .i64 r, .int .i64 s, .int .i64 t] 32))
  have M0 := (At.new w #[.int .i64 W, .int .i64 H, .slice (some ⟨b, 0, none⟩) n c] 25).alloc (.cells #[.int .i64 p, .int .i64 r, .int .i64 s, .int .i64 t] 32)
  have E0 := At.newAt (w := w.alloc (.cells #[.int .i64 W, .int .i64 H, .slice (some ⟨b, 0, none⟩) n c] 25)) (n := w.heap.size + 1) (by simp) #[.int .i64 p, .int .i64 r, .int .i64 s, .int .i64 t] 32
  go_enter Try.func25, Try.ntmps25
  obtain ⟨bm, hbm⟩ : ∃ bm, bm = w.heap.size := ⟨_, rfl⟩
  rw [← hbm] at M0 E0
  go_wp2_with fail
  rw [← hbm]
  clear hbm
  go_loopw [5] (fun i wr => ∃ k : Nat, k ≤ n ∧ i = .int .i64 k ∧ (∀ i, i < k → solP p r s t W L i = true) ∧
      At wr bm #[.int .i64 W, .int .i64 H, .slice (some ⟨b, 0, none⟩) n c] 25 ∧ At wr (bm + 1) #[.int .i64 p, .int .i64 r, .int .i64 s, .int .i64 t] 32 ∧ Gr w wr)
    (fun i _ => n - (intOf i).toNat)
  case atStart => exact ⟨0, Nat.zero_le _, rfl, fun i hi => by omega, M0, E0, G0⟩
  case round =>
    obtain ⟨k, hk, rfl, hall, Mk, Ek, Gk⟩ := hrel
    obtain ⟨m0, m1, m2⟩ := cells3 Mk
    by_cases hlt : k < n
    · obtain ⟨d1, d2, d3⟩ := div_of (k := k) (H := H) w1 (by rw [← hll.out]; exact hlt)
      obtain ⟨i, j, hi, hj, x1, x2, x3, x4, x5, x6, x7, x8⟩ := rem_quo k W w1 (by omega)
      have hsol : solP p r s t W L k = (!hasB p r s t i j || (pA (L.getD k 0) == 255)) := by rw [hi, hj]; rfl
      have ch := fun w => refhas1 p r s t i j w
      have hx := hgett.out k hlt
      have hc32 := h32 _ (List.mem_of_getElem? hx)
      generalize L.getD k 0 = x at *
      have c1 : wr.cell? ⟨b, k, none⟩ = some (.int .u32 x) := by have := (hR.gr Gk) _ _ hx; rwa [Nat.zero_add] at this
      clear hx hi hj d1 d2 d3
      replace hsol := Lib.hid hsol
      replace hall := Lib.hid hall
      have cp := fun w => refparts1 x w hc32
      go_wp2_with fail
      refine (cp _).mono ?_
      rintro e v2 ⟨rfl, g2⟩
      have g3 := g2.alloc (.cells #[.int .i64 (pA x), .int .i64 (pR x), .int .i64 (pG x), .int .i64 (pB x)] 86)
      have Xp := At.new v2 #[.int .i64 (pA x), .int .i64 (pR x), .int .i64 (pG x), .int .i64 (pB x)] 86
      replace Mk := Mk.gr g3
      replace Ek := Ek.gr g3
      replace Gk := Gk.trans g3
      clear m1 m2 c1
      go_wp2_with fail
      clear m0
      have m0 := fun q os => Mk.cells q os 0
      have e0 := fun q os => Ek.cells q os 0; have e1 := fun q os => Ek.cells q os 1; have e2 := fun q os => Ek.cells q os 2; have e3 := fun q os => Ek.cells q os 3
      have p0 := fun q os => Xp.cells q os 0
      simp at m0 e0 e1 e2 e3 p0
      have hsg := hsol
      generalize pA x = a at *
      have hW2 : (W : Int) ≠ 0 := by omega
      cases hh : hasB p r s t i j
      all_goals obtain rfl | ha : a = 255 ∨ ¬ a = 255 := Decidable.em _
      all_goals
        have hsv := hsol.out
        rw [hh] at ch hsv
        replace hh := Lib.hid hh
        clear hsg
        refine wp_region_quiet_grown (by kernel_rfl) (by kernel_rfl) ?_
        repeat (first | go_big_quiet_step ((go_at_call 36; exact Calls.grown (ch _))) | quiet_step ((go_at_call 36; exact Calls.grown (ch _))))
        refine wpQuiet_nil ?_
        intro W3 g9
        replace g9 : Gr _ W3 := g9
        replace Mk := Mk.gr g9
        replace Ek := Ek.gr g9
        replace Gk := Gk.trans g9
        clear m0 e0 e1 e2 e3 p0 ch
        go_wp2
      · go_roundw
        case rel => exact ⟨k + 1, by omega, by simp, solP_step hall.out (by rw [hsv]; simp), Mk, Ek, Gk⟩
        case measure => simp [intOf]; omega
      · go_roundw
        case rel => exact ⟨k + 1, by omega, by simp, solP_step hall.out (by rw [hsv]; simp), Mk, Ek, Gk⟩
        case measure => simp [intOf]; omega
      · go_roundw
        case rel => exact ⟨k + 1, by omega, by simp, solP_step hall.out (by rw [hsv]; simp), Mk, Ek, Gk⟩
        case measure => simp [intOf]; omega
      · exact bodyPost_ret (v := .bool false) (by simp [results, Try.results25, go_sem]) rfl ⟨by rw [solP_no hlt (by rw [hsv]; simpa using ha)], Gk⟩
    · obtain rfl : k = n := by omega
      go_wp2
      refine bodyPost_ret (v := .bool true) (by simp [results, Try.results25, go_sem]) rfl ⟨by rw [solP_all.2 hall], Gk⟩

end Go.Proofs.Ytmaondghfncjoaa
