/-
  What is proved: what each function of package ids does to a table that reads as a list of ids that rises. Conditions: the table's ids rise and may be; numbers are ints.
-/
import Derived.Test.YtdbkklhnoflbpaaWa
namespace Go.Proofs.Ytdbkklhnoflbpaa
open Go.ChangeShapes Go.WideShapes Go.ChangeAt Go.RowKit Go.Joins Go.Sort Go.Deep Go.Maps

theorem keyInt : Keyed Try.prog 3 := int_keyed Try.underlying3
theorem zeroInt (w : World) : (zeroValue 3).run Try.prog w = .ok (.int .i64 0) w := by kernel_rfl
theorem wf64 {n : Int} (h : I64 n) : (Lit.int .i64 n).wf = true := by
  unfold I64 at h
  simp [Lit.wf, IntKind.min, IntKind.max, IntKind.bits, IntKind.signed]
  omega
theorem tight {P : Program} {k : TypeId} {R : Value → Option (DataW Unit × List MemPlace)} {w : World} {b n : Nat} {D : DataW Unit} (h : w.ownsMap P k R b n D) : w.ownsMap P k R b (Maps.size D) D := by
  obtain ⟨es, clock, hb, F, hs, rfl⟩ := h
  exact ⟨es, clock, hb, F, by simp [Maps.size, length_sorted], rfl⟩
/-- Block b is a map that reads as this list. -/
def Mp (w : World) (b : Nat) (L : List Ik) : Prop := w.ownsMap Try.prog 3 (plainElem Try.prog 3) b L.length (dmap L)
theorem Mp.of {w : World} {b n : Nat} {L : List Ik} (h : w.ownsMap Try.prog 3 (plainElem Try.prog 3) b n (dmap L)) : Mp w b L := by
  have := tight h
  rw [size_dmap] at this
  exact this
theorem Mp.lt {w : World} {b : Nat} {L : List Ik} (h : Mp w b L) : b < w.heap.size := World.ownsMap.lt h
theorem Mp.by {w w' : World} {b : Nat} {L : List Ik} (h : Mp w b L) {row : Option Nat} (g : w.grownBy w' row) (hne : some b ≠ row) : Mp w' b L := World.ownsMap.kept h g hne
theorem Mp.bl {w w' : World} {b : Nat} {L : List Ik} (h : Mp w b L) (g : Bl w w') : Mp w' b L := h.by (g.byr none) (by simp)
theorem Mp.cell {w : World} {b : Nat} {L : List Ik} (h : Mp w b L) (p : Addr) (hp : p.block = b) : w.cell? p = none := by
  obtain ⟨es, clock, hb, _⟩ := h
  unfold World.cell?
  rw [hp, hb]
theorem Mp.ne {w : World} {a b : Nat} {L : List Ik} {cs : Array Value} {t : TypeId} (h : Mp w b L) (g : At w a cs t) : a ≠ b := by
  rintro rfl
  obtain ⟨es, clock, hb, _⟩ := h
  unfold At at g
  rw [hb] at g
  cases g
/-- A table. -/
structure Tb (w : World) (a b : Nat) (m : Int) (L : List Ik) : Prop where
  hd : At w a #[.int .i64 m, .map (some b)] 54
  mp : Mp w b L
  ok : OkT m L
theorem Tb.bl {w w' : World} {a b : Nat} {m : Int} {L : List Ik} (h : Tb w a b m L) (g : Bl w w') : Tb w' a b m L := ⟨h.hd.bl g, h.mp.bl g, h.ok⟩
theorem Tb.by {w w' : World} {a b : Nat} {m : Int} {L : List Ik} (h : Tb w a b m L) {row : Option Nat} (g : w.grownBy w' row) (h1 : some a ≠ row) (h2 : some b ≠ row) : Tb w' a b m L := ⟨h.hd.grown g h1, h.mp.by g h2, h.ok⟩
theorem Tb.ne {w : World} {a b : Nat} {m : Int} {L : List Ik} (h : Tb w a b m L) : a ≠ b := h.mp.ne h.hd

section
attribute [local go_sem ↓] run_min2 run_max2
theorem idNew1 (n : Int) (w : World) : Calls Try.prog 8 #[.int .i64 n] w fun e w' => ∃ a b, e = .returned (.pointer (some ⟨a, 0, none⟩)) ∧ w.heap.size ≤ a ∧ w.heap.size ≤ b ∧ Tb w' a b (mostN n) [] ∧ Bl w w' := by
  have hmm := @run_makeMap Try.prog
  go_enter Try.func8, Try.ntmps8
  go_wp2
  go_ret
  have g1 : Bl w (w.alloc (.map #[] 0)) := (Bl.refl w).alloc _
  have hm : Mp (w.alloc (.map #[] 0)) w.heap.size [] := World.ownsMap_made w _ _ _
  exact ⟨_, w.heap.size, rfl, by simp, Nat.le_refl _, ⟨At.newAt (by simp) _ _, hm.bl ((Bl.refl _).alloc _), OkT.nil n⟩, g1.alloc _⟩
end

theorem idLen1 {w : World} {a b : Nat} {m : Int} {L : List Ik} (h : Tb w a b m L) : Calls Try.prog 21 #[.pointer (some ⟨a, 0, none⟩)] w (Rt w (.int .i64 L.length)) := by
  have c1 := h.hd.cell 1
  have hown := h.mp
  unfold Mp at hown
  go_enter Try.func21, Try.ntmps21
  go_wp2_with (first | (at_len; refine wpList_len_own _ rfl _ 52 rfl 3 3 Try.underlying52 _ b _ _ rfl hown ?_) | go_in)
  rw [size_dmap]
  go_ret
  exact ⟨rfl, Gr.refl _⟩

theorem idKind1 {w : World} {a b : Nat} {m : Int} {L : List Ik} (h : Tb w a b m L) (i : Int) (hi : I64 i) : Calls Try.prog 16 #[.pointer (some ⟨a, 0, none⟩), .int .i64 i] w (Rt w (.int .i64 (kindL L i))) := by
  have c1 := h.hd.cell 1
  have hown := h.mp
  unfold Mp at hown
  have hkey := keyOf_int_mk Try.underlying3 (wf64 hi)
  go_enter Try.func16, Try.ntmps16
  go_wp2_with (first | (at_lookup; refine wpList_lookup_own_int _ rfl _ _ 52 rfl 3 3 .i64 keyInt Try.underlying52 Try.underlying3 (zeroInt _) b _ _ rfl hown _ _ rfl hkey ?_; intro c hat hwc) | go_in)
  go_ret
  rw [atKey_dmap0] at hat
  injection hat with hat
  injection hat with _ hat
  subst hat
  exact ⟨rfl, Gr.refl _⟩

theorem idFind1 {w : World} {a b : Nat} {m : Int} {L : List Ik} (h : Tb w a b m L) (i k : Int) (hi : I64 i) : Calls Try.prog 12 #[.pointer (some ⟨a, 0, none⟩), .int .i64 i, .int .i64 k] w (Rt w (.int .i64 (findE L i k))) := by
  have c1 := h.hd.cell 1
  have hown := h.mp
  unfold Mp at hown
  have hkey := keyOf_int_mk Try.underlying3 (wf64 hi)
  have hh := has_dmap L i
  have hc : ∀ c, (dmap L).atKey (.int .i64 i) (.lit (.int .i64 0)) = .lit (.int .i64 c) → c = kindL L i := fun c hc => by
    rw [atKey_dmap0] at hc; injection hc with hc; injection hc with _ hc; exact hc.symm
  have hf : findE L i k = if hasL L i then (if kindL L i = k then 0 else 9) else 5 := rfl
  generalize findE L i k = F at *
  generalize kindL L i = K at *
  replace hc := Lib.hid hc
  cases hb : hasL L i
  · rw [hb] at hh hf
    simp only [Bool.false_eq_true, if_false] at hf
    subst hf
    clear hb
    go_enter Try.func12, Try.ntmps12
    go_wp2_with (first | (at_lookup; refine wpList_lookup_own_ok_int _ rfl _ _ 52 rfl 3 3 .i64 keyInt Try.underlying52 Try.underlying3 (zeroInt _) b _ _ rfl hown _ _ rfl hkey ?_; intro c hat hwc; clear hat) | go_in)
    go_ret
    exact ⟨rfl, Gr.refl _⟩
  · rw [hb] at hh hf
    clear hb
    by_cases hk : K = k
    · have hke : (K != k) = false := by simp [hk]
      rw [if_pos rfl, if_pos hk] at hf
      subst hf
      clear hk
      go_enter Try.func12, Try.ntmps12
      go_wp2_with (first | (at_lookup; refine wpList_lookup_own_ok_int _ rfl _ _ 52 rfl 3 3 .i64 keyInt Try.underlying52 Try.underlying3 (zeroInt _) b _ _ rfl hown _ _ rfl hkey ?_; intro c hat hwc; obtain rfl := hc.out c hat; clear hat) | go_in)
      go_ret
      exact ⟨rfl, Gr.refl _⟩
    · have hke : (K != k) = true := by simpa using hk
      rw [if_pos rfl, if_neg hk] at hf
      subst hf
      clear hk
      go_enter Try.func12, Try.ntmps12
      go_wp2_with (first | (at_lookup; refine wpList_lookup_own_ok_int _ rfl _ _ 52 rfl 3 3 .i64 keyInt Try.underlying52 Try.underlying3 (zeroInt _) b _ _ rfl hown _ _ rfl hkey ?_; intro c hat hwc; obtain rfl := hc.out c hat; clear hat) | go_in)
      go_ret
      exact ⟨rfl, Gr.refl _⟩

theorem idFree1 {w : World} {a b : Nat} {m : Int} {L : List Ik} (h : Tb w a b m L) : Calls Try.prog 22 #[.pointer (some ⟨a, 0, none⟩)] w (Rt w (.int .i64 (m - L.length))) := by
  have c0 := h.hd.cell 0
  have c1 := h.hd.cell 1
  have c0' := fun n os => h.hd.cells n os 0
  have c1' := fun n os => h.hd.cells n os 1
  have hl := fun n os ty => World.ownsMap.len ((show Mp (Go.Sort.grow (w.drewN n) os) b L from h.mp.bl (((Bl.refl w).drewN n).grow os))) (e := 3) Try.underlying52 ty
  have w1 : IntKind.i64.wrap (m - L.length) = m - L.length := IntWalk.i64_in _ (by have := h.ok.most; have := h.ok.m32; omega)
  simp only [size_dmap] at hl
  go_enter Try.func22, Try.ntmps22
  go_wp2_with fail
  refine wp_region_quiet_grown (by kernel_rfl) (by kernel_rfl) ?_
  repeat (first | go_big_quiet_step (fail) | quiet_step (fail))
  refine wpQuiet_nil ?_
  intro w2 g2
  go_wp2
  go_ret
  exact ⟨rfl, g2⟩

theorem idDrop1 {w : World} {a b : Nat} {m : Int} {L : List Ik} (h : Tb w a b m L) (i : Int) (hi : I64 i) : Calls Try.prog 15 #[.pointer (some ⟨a, 0, none⟩), .int .i64 i] w fun e w' =>
    e = .returned (.bool (hasL L i)) ∧ Tb w' a b m (dropL L i) ∧ w.grownBy w' (some b) := by
  have c1 := h.hd.cell 1
  have hown := h.mp
  unfold Mp at hown
  have hkey := keyOf_int_mk Try.underlying3 (wf64 hi)
  have hh := has_dmap L i
  have hd := del_dmap L i
  have hne := h.ne
  go_enter Try.func15, Try.ntmps15
  go_wp2_with (first
    | (at_lookup; refine wpList_lookup_own_ok_int _ rfl _ _ 52 rfl 3 3 .i64 keyInt Try.underlying52 Try.underlying3 (zeroInt _) b _ _ rfl hown _ _ rfl hkey ?_; intro c hat hwc; clear hat)
    | (at_delete; refine wpList_delete_own _ rfl _ _ 52 3 rfl 3 keyInt Try.underlying52 _ b _ _ rfl hown _ _ rfl hkey ?_; intro w1 hown1 hturn1; rw [hd] at hown1)
    | go_in)
  go_ret
  exact ⟨rfl, ⟨h.hd.grown hturn1.grown (by simpa using hne), Mp.of hown1, h.ok.drop i⟩, hturn1.grown⟩

theorem idAddBad {w : World} (a : Nat) (i k : Int) (hb : i < 1 ∨ 4294967295 < i ∨ k < 1 ∨ 8 < k) : Calls Try.prog 11 #[.pointer (some ⟨a, 0, none⟩), .int .i64 i, .int .i64 k] w (Rt w (.int .i64 1)) := by
  go_enter Try.func11, Try.ntmps11
  cases d1 : decide (i < 1)
  · cases d2 : decide (4294967295 < i)
    · cases d3 : decide (k < 1)
      · have d4 : decide (8 < k) = true := by simp at d1 d2 d3 ⊢; omega
        clear hb
        go_wp2
        go_ret
        exact ⟨rfl, Gr.refl _⟩
      · clear hb
        go_wp2
        go_ret
        exact ⟨rfl, Gr.refl _⟩
    · clear hb
      go_wp2
      go_ret
      exact ⟨rfl, Gr.refl _⟩
  · clear hb
    go_wp2
    go_ret
    exact ⟨rfl, Gr.refl _⟩

theorem idAdd1 {w : World} {a b : Nat} {m : Int} {L : List Ik} (h : Tb w a b m L) (i k : Int) (hi : I64 i) (hk : I64 k) : Calls Try.prog 11 #[.pointer (some ⟨a, 0, none⟩), .int .i64 i, .int .i64 k] w fun e w' =>
    e = .returned (.int .i64 (addE m L i k)) ∧ Tb w' a b m (addL m L i k) ∧ w.grownBy w' (some b) := by
  by_cases hb : i < 1 ∨ 4294967295 < i ∨ k < 1 ∨ 8 < k
  · refine (idAddBad a i k hb).mono ?_
    rintro e w' ⟨rfl, g⟩
    have e1 := addE_bad (m := m) (L := L) hb
    have e2 : addL m L i k = L := by unfold addL; rw [e1]; rfl
    rw [e1, e2]
    exact ⟨rfl, h.bl g.bl, g.bl.byr _⟩
  have e1 := addE_ok (m := m) (L := L) hb
  have e2 : addL m L i k = if addE m L i k = 0 then insL (i, k) L else L := rfl
  have d1 : decide (i < 1) = false := by simp; omega
  have d2 : decide (4294967295 < i) = false := by simp; omega
  have d3 : decide (k < 1) = false := by simp; omega
  have d4 : decide (8 < k) = false := by simp; omega
  have hok := h.ok.add i k
  have c1 := h.hd.cell 1
  have hown := h.mp
  unfold Mp at hown
  have hkey := keyOf_int_mk Try.underlying3 (wf64 hi)
  have hh := has_dmap L i
  have cf := fun W (g : Bl w W) => idFree1 (h.bl g)
  have hne := h.ne
  have hlen := h.ok.len
  cases hx : hasL L i
  · rw [hx] at hh e1
    simp only [Bool.false_eq_true, if_false] at e1
    have hput := put_dmap hx k
    clear hb hx
    by_cases hq : m ≤ L.length
    · rw [if_pos hq] at e1
      rw [e1, if_neg (by decide)] at e2
      rw [e1, e2]
      have hz : (m - (L.length : Int) == 0) = true := by have := h.ok.most; simp; omega
      clear e1 e2 hq hok
      replace hlen := Lib.hid hlen
      go_enter Try.func11, Try.ntmps11
      go_wp2_with (first
        | (at_lookup; refine wpList_lookup_own_ok_int _ rfl _ _ 52 rfl 3 3 .i64 keyInt Try.underlying52 Try.underlying3 (zeroInt _) b _ _ rfl hown _ _ rfl hkey ?_; intro c hat hwc; clear hat)
        )
      refine (cf _ (Bl.refl _)).mono ?_
      rintro e w2 ⟨rfl, g2⟩
      go_wp2
      go_ret
      exact ⟨rfl, h.bl g2.bl, g2.bl.byr _⟩
    · rw [if_neg hq] at e1
      rw [e1, if_pos rfl] at e2
      rw [e2] at hok
      rw [e1, e2]
      have hz : (m - (L.length : Int) == 0) = false := by simp; omega
      clear e1 e2 hq
      replace hlen := Lib.hid hlen
      go_enter Try.func11, Try.ntmps11
      go_wp2_with (first
        | (at_lookup; refine wpList_lookup_own_ok_int _ rfl _ _ 52 rfl 3 3 .i64 keyInt Try.underlying52 Try.underlying3 (zeroInt _) b _ _ rfl hown _ _ rfl hkey ?_; intro c hat hwc; clear hat)
        )
      refine (cf _ (Bl.refl _)).mono ?_
      rintro e w2 ⟨rfl, g2⟩
      have h2 := h.bl g2.bl
      have c2 := h2.hd.cell 1
      have hown2 := h2.mp
      unfold Mp at hown2
      go_wp2_with (first
        | (at_mapUpdate; refine wpList_mapUpdate_in _ rfl _ _ _ 52 rfl 3 3 keyInt Try.underlying52 _ b _ _ rfl hown2 (by have := hlen.out; unfold maxLen; omega) _ _ _ rfl rfl hkey _ [] (plainElem_int Try.underlying3 (wf64 hk)) ?_; intro w3 hown3 hturn3; rw [hput] at hown3)
        | go_in)
      go_ret
      exact ⟨rfl, ⟨h2.hd.grown hturn3.grown (by simpa using hne), Mp.of hown3, hok⟩, By.trans (g2.bl.byr _) hturn3.grown⟩
  · rw [hx] at hh e1
    simp only [if_true] at e1
    rw [e1, if_neg (by decide)] at e2
    rw [e1, e2]
    clear e1 e2 hb hok hx
    go_enter Try.func11, Try.ntmps11
    go_wp2_with (first
      | (at_lookup; refine wpList_lookup_own_ok_int _ rfl _ _ 52 rfl 3 3 .i64 keyInt Try.underlying52 Try.underlying3 (zeroInt _) b _ _ rfl hown _ _ rfl hkey ?_; intro c hat hwc; clear hat)
      | go_in)
    go_ret
    exact ⟨rfl, h, By.refl _ _⟩

end Go.Proofs.Ytdbkklhnoflbpaa
