/-
  What is proved: what the document's Top, Lower, Over, Raise hand back. Conditions: bounds on lengths.
-/
import Derived.Test.YtgjoipndhlngnaaSke
namespace Go.Proofs.Ytgjoipndhlngnaa
open Go.ChangeShapes Go.WideShapes Go.ChangeAt Go.RowKit Go.Joins Go.Sort Go.Deep

section
attribute [local go_sem ↓] eqlK neqK eqlP neqP

theorem Shp.Ow.built {α : Type} {S : Shp α} {T : TypeId} {w : World} {g : Nat} {x : α} (h : At w g (S.c x).toArray T) {B : Nat} (hB : B ≤ g) : S.Ow T w B (some ⟨g, 0, none⟩) 1 [x] :=
  Shp.Ow.of (sp := []) (by rw [S.cs_one, List.append_nil]; exact h) hB (by decide) (by rw [S.cs_one, List.append_nil, S.len, Nat.one_mul])

set_option maxRecDepth 100000 in
theorem rTopK {w : World} {B c : Nat} {A : Option Addr} {L : List Ky} (h : OwK w B A c L) (hl : L.length ≤ 100000) (hB : B ≤ w.heap.size) (k : Ky) :
    Calls Try.prog 32 #[.slice A L.length c, kV k] w fun e w' => ∃ A' c', e = .returned (.tuple #[.slice A' (topK L k).length c', .int .i64 (oneE L k)]) ∧ OwK w' B A' c' (topK L k) ∧ Bl w w' := by
  have cD := fun V (g : Bl w V) => rDropK (c := c) (h.rd.bl g) (by omega) k
  obtain ⟨was, hw⟩ : ∃ was, was = decide (k ∈ L) := ⟨_, rfl⟩
  rw [← hw] at cD
  have hDl := drop_len L k
  have b0 := At.new w (kC k) 27
  by_cases hk : k ∈ L
  · have e1 : topK L k = dropK L k ++ [k] := if_pos hk
    have e2 : oneE L k = 0 := if_pos hk
    rw [e1, e2]
    obtain rfl : was = true := by rw [hw]; simpa using hk
    clear e1 e2 hk hw
    generalize dropK L k = D at *
    go_enter Try.func32, Try.ntmps32
    go_wp2_with fail
    refine (cD _ ((Bl.refl w).alloc _)).mono ?_
    rintro e w3 ⟨A3, c3, rfl, own3, g3⟩
    have G3 := ((Bl.refl w).alloc (.cells (kC k) 27)).trans g3
    have q0 := (b0.bl g3).cell 0
    have q1 := (b0.bl g3).cell 1
    have ql := (b0.bl g3).lt
    have hs3 := g3.size
    simp at hs3
    clear cD b0
    have hz : w.heap.size ≤ w3.heap.size := G3.size
    go_wp2_with (at_builtin; refine Shp.wp_app (S := shK) Try.underlying22 infoK rfl (by decide) rfl (.tmp 17) (.tmp 19) rfl A3 c3 D rfl (w.alloc (.cells (kC k) 27)).heap.size (own3.bl ((Bl.refl _).alloc _)) (some ⟨w3.heap.size, 0, none⟩) 1 [k] rfl (by first | simp | exact hcap) (Shp.Rd.new1 (At.new _ _ _) rfl) (by simp; omega) (by have := g3.size; simp at this ⊢; omega) ?_; intro A5 c5 w5 own5 ap5 lies5)
    have G6 : Bl w w5 := own3.app_bl ap5 (G3.alloc _) (by simp)
    go_ret2
    exact ⟨A5, c5, by simp, own5.low (by simp; omega), G6⟩
  · have e1 : topK L k = L := if_neg hk
    have e2 : oneE L k = 5 := if_neg hk
    rw [e1, e2]
    obtain rfl : was = false := by rw [hw]; simpa using hk
    clear e1 e2 hk hw
    generalize dropK L k = D at *
    go_enter Try.func32, Try.ntmps32
    go_wp2_with fail
    refine (cD _ ((Bl.refl w).alloc _)).mono ?_
    rintro e w3 ⟨A3, c3, rfl, own3, g3⟩
    have G3 := ((Bl.refl w).alloc (.cells (kC k) 27)).trans g3
    go_wp2
    go_ret2
    exact ⟨A, c, rfl, h.bl G3, G3⟩

set_option maxRecDepth 100000 in
theorem rLowK {w : World} {B c : Nat} {A : Option Addr} {L : List Ky} (h : OwK w B A c L) (hl : L.length ≤ 100000) (hB : B ≤ w.heap.size) (k : Ky) :
    Calls Try.prog 33 #[.slice A L.length c, kV k] w fun e w' => ∃ A' c', e = .returned (.tuple #[.slice A' (lowK L k).length c', .int .i64 (oneE L k)]) ∧ OwK w' B A' c' (lowK L k) ∧ Bl w w' := by
  have cD := fun V (g : Bl w V) => rDropK (c := c) (h.rd.bl g) (by omega) k
  obtain ⟨was, hw⟩ : ∃ was, was = decide (k ∈ L) := ⟨_, rfl⟩
  rw [← hw] at cD
  have hDl := drop_len L k
  have b0 := At.new w (kC k) 27
  by_cases hk : k ∈ L
  · have e1 : lowK L k = [k] ++ dropK L k := if_pos hk
    have e2 : oneE L k = 0 := if_pos hk
    rw [e1, e2]
    obtain rfl : was = true := by rw [hw]; simpa using hk
    clear e1 e2 hk hw
    generalize dropK L k = D at *
    go_enter Try.func33, Try.ntmps33
    go_wp2_with fail
    refine (cD _ ((Bl.refl w).alloc _)).mono ?_
    rintro e w3 ⟨A3, c3, rfl, own3, g3⟩
    have G3 := ((Bl.refl w).alloc (.cells (kC k) 27)).trans g3
    have q0 := (b0.bl g3).cell 0
    have q1 := (b0.bl g3).cell 1
    have ql := (b0.bl g3).lt
    have hcap := own3.caps.2.2
    have hz : w.heap.size ≤ w3.heap.size := G3.size
    have nB := At.new w3 (kC k) 27
    have nO : OwK (w3.alloc (.cells (kC k) 27)) w3.heap.size (some ⟨w3.heap.size, 0, none⟩) 1 [k] := Shp.Ow.built nB (Nat.le_refl _)
    have d3 := (own3.bl ((Bl.refl _).alloc (.cells (kC k) 27))).rd
    clear cD b0
    go_wp2_with (at_builtin; refine Shp.wp_app (S := shK) Try.underlying22 infoK rfl (by decide) rfl (.tmp 20) (.tmp 21) rfl (some ⟨w3.heap.size, 0, none⟩) 1 [k] rfl w3.heap.size (nO) A3 c3 D rfl (by first | simp | exact hcap) (d3) (by simp; omega) (by simp) ?_; intro A5 c5 w5 own5 ap5 lies5)
    have G6 : Bl w w5 := nO.app_bl ap5 (G3.alloc _) hz
    go_ret2
    exact ⟨A5, c5, by simp; omega, own5.low (by omega), G6⟩
  · have e1 : lowK L k = L := if_neg hk
    have e2 : oneE L k = 5 := if_neg hk
    rw [e1, e2]
    obtain rfl : was = false := by rw [hw]; simpa using hk
    clear e1 e2 hk hw
    generalize dropK L k = D at *
    go_enter Try.func33, Try.ntmps33
    go_wp2_with fail
    refine (cD _ ((Bl.refl w).alloc _)).mono ?_
    rintro e w3 ⟨A3, c3, rfl, own3, g3⟩
    have G3 := ((Bl.refl w).alloc (.cells (kC k) 27)).trans g3
    go_wp2
    go_ret2
    exact ⟨A, c, rfl, h.bl G3, G3⟩

set_option maxRecDepth 100000 in
theorem rOverK {w : World} {A : Option Addr} {c : Nat} {L : List Ky} (h : shK.Rd w A L) (hl : L.length ≤ 100000) (hc : L.length ≤ c) (hm : c ≤ maxLen) (k : Ky) :
    Calls Try.prog 18 #[.slice A L.length c, kV k] w fun e w' => ∃ A' c', e = .returned (.slice A' (overK L k).length c') ∧ shK.Rd w' A' (overK L k) ∧ Bl w w' := by
  have cA := fun V (g : Gr w V) => rAt1 (c := c) (h.bl g.bl) (by omega) k
  have hm' : c ≤ 9223372036854775807 := by unfold maxLen at hm; omega
  by_cases hk : k ∈ L
  · have e1 : overK L k = L.drop (ixK L k + 1) := if_pos hk
    rw [e1]
    have hq := ix_lt hk
    rw [at_in hk] at cA
    clear e1 hk
    generalize ixK L k = q at *
    obtain ⟨b, off, rfl, hrow⟩ := h.opened (by omega)
    obtain ⟨N, hN⟩ : ∃ N, N = L.length := ⟨_, rfl⟩
    rw [← hN] at cA hq hl hc ⊢
    have hlen : (L.drop (q + 1)).length = N - (q + 1) := by rw [List.length_drop, hN]
    rw [hlen]
    have hrd : ∀ V, Bl w V → shK.Rd V (some ⟨b, off + (q + 1) * 2, none⟩) (L.drop (q + 1)) := fun V g => .inr ⟨b, _, rfl, (hrow.bl g).drop (q + 1)⟩
    have hrd0 : N = q + 1 → ∀ V A, shK.Rd V A (L.drop (q + 1)) := fun e V A => .inl (List.drop_eq_nil_of_le (by omega))
    replace hN := Lib.hid hN
    replace hlen := Lib.hid hlen
    by_cases hcq : c = q + 1
    · have hNq : N = q + 1 := by omega
      have hfin := hrd0 hNq
      clear hrd hrd0
      subst hcq
      subst hNq
      go_enter Try.func18, Try.ntmps18
      go_wp2_with fail
      refine (cA _ ((Gr.refl w).alloc _)).mono ?_
      rintro e w3 ⟨rfl, g3⟩
      have G3 := ((Gr.refl w).alloc (.cells (kC k) 27)).trans g3
      go_wp2
      go_ret
      exact ⟨some ⟨b, off, none⟩, 0, by rw [Nat.sub_self]; rfl, hfin _ _, G3.bl⟩
    · go_enter Try.func18, Try.ntmps18
      go_wp2_with fail
      refine (cA _ ((Gr.refl w).alloc _)).mono ?_
      rintro e w3 ⟨rfl, g3⟩
      have G3 := ((Gr.refl w).alloc (.cells (kC k) 27)).trans g3
      go_wp2
      go_ret
      exact ⟨_, _, rfl, hrd _ G3.bl, G3.bl⟩
  · have e1 : overK L k = [] := if_neg hk
    rw [e1]
    rw [at_out hk] at cA
    clear e1 hk
    go_enter Try.func18, Try.ntmps18
    go_wp2_with fail
    refine (cA _ ((Gr.refl w).alloc _)).mono ?_
    rintro e w3 ⟨rfl, g3⟩
    have G3 := ((Gr.refl w).alloc (.cells (kC k) 27)).trans g3
    go_wp2
    go_ret
    exact ⟨none, 0, rfl, .inl rfl, G3.bl⟩
end

end Go.Proofs.Ytgjoipndhlngnaa
