/-
  What is proved: rows of ids and kinds as the document's package lays them; what each of its functions hands back. Conditions: the ids rise and may be; at most 32 of them.
-/
import Derived.Test.YtdbkklhnoflbpaaWc
namespace Go.Proofs.Ytdbkklhnoflbpaa
open Go.ChangeShapes Go.WideShapes Go.ChangeAt Go.RowKit Go.Joins Go.Sort Go.Deep Go.Maps

def shK : Shp Ik := ⟨2, fun x => [.int .i64 x.1, .int .i64 x.2], fun _ => rfl, fun x u h => by simp at h; rcases h with h | h <;> (subst h; rfl), by omega⟩
theorem infoK : (Try.prog.info? 56).map (fun i => (i.zero, i.size, i.bytes)) = some (some (.agg #[.int .i64 0, .int .i64 0]), shK.n, 16) := by kernel_rfl
abbrev OwK := shK.Ow 56
theorem ik_at {w : World} {b off : Nat} {l : List Ik} (h : shK.Row w b off l) {k : Nat} {x : Ik} (hx : l[k]? = some x) : w.cell? ⟨b, off + k * 2, none⟩ = some (.int .i64 x.1) ∧ w.cell? ⟨b, off + k * 2 + 1, none⟩ = some (.int .i64 x.2) := by
  have h0 := h k x hx 0 (.int .i64 x.1) rfl
  have h1 := h k x hx 1 (.int .i64 x.2) rfl
  exact ⟨by simpa [shK] using h0, by simpa [shK] using h1⟩
theorem drop_at {α : Type} {l : List α} {k : Nat} {x : α} (h : l[k]? = some x) : l.drop k = x :: l.drop (k + 1) := by
  obtain ⟨h1, rfl⟩ := List.getElem?_eq_some_iff.1 h
  exact List.drop_eq_getElem_cons h1
theorem kindL_cons (p : Ik) (l : List Ik) (i : Int) : kindL (p :: l) i = if (p.1 == i) = true then p.2 else kindL l i := by
  unfold kindL
  rw [List.find?_cons]
  cases p.1 == i <;> rfl

section
attribute [local go_sem ↓] run_min2 run_max2
theorem rNew1 (n : Int) (w : World) : Calls Try.prog 9 #[.int .i64 n] w (Rt w (.agg #[.int .i64 (mostN n), .slice none 0 0])) := by
  go_enter Try.func9, Try.ntmps9
  go_wp2
  have bx := At.new w #[.int .i64 (min (max n 1) 32), .slice none 0 0] 27
  have d0 := bx.cell 0
  have d1 := bx.cell 1
  exact bodyPost_ret (v := .agg #[.int .i64 (mostN n), .slice none 0 0]) (by simp [results, Try.results9, go_sem, d0, d1, mostN]) rfl ⟨rfl, (Gr.refl w).alloc _⟩
end

set_option maxRecDepth 100000 in
theorem rKind1 {w : World} {A : Option Addr} {c : Nat} {L : List Ik} (h : shK.Rd w A L) (hl : L.length ≤ 32) (m i : Int) :
    Calls Try.prog 17 #[.agg #[.int .i64 m, .slice A L.length c], .int .i64 i] w (Rt w (.int .i64 (kindL L i))) := by
  go_enter Try.func17, Try.ntmps17
  go_wp2
  go_loopw [5] (fun v wr => ∃ k : Nat, k ≤ L.length ∧ v = .int .i64 k ∧ Gr w wr ∧ At wr w.heap.size #[.int .i64 m, .slice A L.length c] 27 ∧ Hid (kindL (L.drop k) i = kindL L i)) (fun v _ => L.length - (intOf v).toNat)
  case atStart => exact ⟨0, by omega, rfl, (Gr.refl w).alloc _, At.new _ _ _, Lib.hid rfl⟩
  case round =>
    obtain ⟨k, hk, rfl, G, bx, hd⟩ := hrel
    have x1 := bx.cell 1
    by_cases hlt : k < L.length
    · obtain ⟨p, hp⟩ := list_at hlt
      obtain ⟨b, off, rfl, hrow⟩ := h.opened (by omega)
      obtain ⟨e1, e2⟩ := ik_at (hrow.bl G.bl) hp
      have hdp := drop_at hp
      have hs := hd.out
      rw [hdp, kindL_cons] at hs
      clear hdp
      replace hp := Lib.hid hp
      cases hq : p.1 == i
      · rw [hq] at hs
        simp only [Bool.false_eq_true, if_false] at hs
        replace hs := Lib.hid hs
        go_wp2
        go_roundw
        case rel => exact ⟨k + 1, by omega, by go_num, G, bx, hs⟩
        case measure => simp [intOf]; omega
      · rw [hq] at hs
        simp only [if_true] at hs
        rw [← hs]
        clear hs hd
        go_wp2
        go_ret
        exact ⟨rfl, G⟩
    · have hk2 : k = L.length := by omega
      have hs := hd.out
      rw [hk2, List.drop_length, show kindL [] i = 0 from rfl] at hs
      replace hs := Lib.hid hs
      clear hd
      go_wp2
      go_ret
      rw [← hs.out]
      exact ⟨rfl, G⟩

theorem rFind1 {w : World} {A : Option Addr} {c : Nat} {L : List Ik} (h : shK.Rd w A L) (m i k : Int) (hok : OkT m L) :
    Calls Try.prog 13 #[.agg #[.int .i64 m, .slice A L.length c], .int .i64 i, .int .i64 k] w (Rt w (.int .i64 (findE L i k))) := by
  have ck := fun W (g : Gr w W) => rKind1 (c := c) (h.bl g.bl) hok.len m i
  have hf : findE L i k = if (kindL L i == 0) = true then 5 else if (kindL L i != k) = true then 9 else 0 := by
    unfold findE
    have := kindL_pos hok i
    cases hb : hasL L i
    · rw [kindL_no hb]; rfl
    · have h0 := this.2 hb
      have h1 : (kindL L i == 0) = false := by simp; omega
      rw [h1]
      by_cases h2 : kindL L i = k
      · simp [h2]
      · simp [h2]
  generalize findE L i k = F at *
  generalize kindL L i = K at *
  replace hf := Lib.hid hf
  go_enter Try.func13, Try.ntmps13
  go_wp2_with fail
  refine (ck _ ((Gr.refl w).alloc _)).mono ?_
  rintro e w2 ⟨rfl, g2⟩
  cases h0 : K == 0
  · cases h1 : K != k
    · have e := hf.out
      rw [h0, h1] at e; simp at e; subst e
      go_wp2
      go_ret
      exact ⟨rfl, ((Gr.refl w).alloc _).trans g2⟩
    · have e := hf.out
      rw [h0, h1] at e; simp at e; subst e
      go_wp2
      go_ret
      exact ⟨rfl, ((Gr.refl w).alloc _).trans g2⟩
  · have e := hf.out
    rw [h0] at e; simp at e; subst e
    go_wp2
    go_ret
    exact ⟨rfl, ((Gr.refl w).alloc _).trans g2⟩

theorem insL_cut {L : List Ik} (h : Asc L) {x : Ik} (_hn : hasL L x.1 = false) {k : Nat} (hk : k ≤ L.length) (hi : ∀ j p, L[j]? = some p → k ≤ j → x.1 < p.1) (hlo : k = 0 ∨ ∃ p, L[k - 1]? = some p ∧ ¬ x.1 < p.1) :
    insL x L = L.take k ++ [x] ++ L.drop k := by
  refine insL_at x L k hk hi (fun j p hj hjk => ?_)
  rcases hlo with h0 | ⟨q, hq, hq1⟩
  · omega
  · rcases Nat.lt_or_ge j (k - 1) with h1 | h1
    · have := h.at hj hq h1; omega
    · have : j = k - 1 := by omega
      subst this; rw [hq] at hj; cases hj; exact hq1
theorem split_at {α : Type} (L : List α) {k : Nat} (hk : k ≤ L.length) : ∃ M N, L = M ++ N ∧ k = M.length ∧ L.take k = M ∧ L.drop k = N :=
  ⟨L.take k, L.drop k, (List.take_append_drop k L).symm, by simp; omega, rfl, rfl⟩
def AddQ (w : World) (B : Nat) (m : Int) (L' : List Ik) (E : Int) (e : Ending) (w' : World) : Prop :=
  ∃ A' c', e = .returned (.tuple #[.agg #[.int .i64 m, .slice A' L'.length c'], .int .i64 E]) ∧ OwK w' B A' c' L' ∧ Bl w w'

set_option maxRecDepth 100000 in
set_option maxHeartbeats 1000000 in
theorem rAddSame {w : World} {A : Option Addr} {c B : Nat} {L : List Ik} (h : OwK w B A c L) (m i k : Int) (hok : OkT m L) (he : addE m L i k ≠ 0) :
    Calls Try.prog 10 #[.agg #[.int .i64 m, .slice A L.length c], .int .i64 i, .int .i64 k] w (AddQ w B m (addL m L i k) (addE m L i k)) := by
  have e2 : addL m L i k = L := if_neg he
  have e1 : addE m L i k = if i < 1 ∨ 4294967295 < i ∨ k < 1 ∨ 8 < k then 1 else if hasL L i then 6 else if m ≤ L.length then 10 else 0 := rfl
  rw [e2]
  have ck := fun W (g : Gr w W) => rKind1 (c := c) (h.rd.bl g.bl) hok.len m i
  have hkp := kindL_pos hok i
  generalize kindL L i = K at *
  generalize addE m L i k = E at *
  have fin : ∀ W, Gr w W → AddQ w B m L E (.returned (.tuple #[.agg #[.int .i64 m, .slice A L.length c], .int .i64 E])) W := fun W g => ⟨A, c, rfl, h.bl g.bl, g.bl⟩
  replace fin := Lib.hid fin
  have g1 : Gr w ((w.alloc (.cells #[.int .i64 m, .slice A L.length c] 27)).alloc (.cells #[.int .i64 0, .slice none 0 0] 27)) := ((Gr.refl w).alloc _).alloc _
  go_enter Try.func10, Try.ntmps10
  by_cases hb : i < 1 ∨ 4294967295 < i ∨ k < 1 ∨ 8 < k
  · rw [if_pos hb] at e1
    subst e1
    have gx : ∀ W, W = (w.alloc (.cells #[.int .i64 m, .slice A L.length c] 27)).alloc (.cells #[.int .i64 m, .slice A L.length c] 27) → Gr w W := fun W h => by rw [h]; exact ((Gr.refl w).alloc _).alloc _
    have ax := At.newAt (w := w.alloc (.cells #[.int .i64 m, .slice A L.length c] 27)) (n := w.heap.size + 1) (by simp) #[.int .i64 m, .slice A L.length c] 27
    have d0 := ax.cell 0
    have d1 := ax.cell 1
    replace gx := Lib.hid gx
    clear hkp ck ax
    cases q1 : decide (i < 1)
    · cases q2 : decide (4294967295 < i)
      · cases q3 : decide (k < 1)
        · have q4 : decide (8 < k) = true := by simp at q1 q2 q3 ⊢; omega
          clear hb
          go_wp2
          exact bodyPost_ret (v := .tuple #[.agg #[.int .i64 m, .slice A L.length c], .int .i64 1]) (by simp [results, Try.results10, go_sem, d0, d1]) rfl (fin.out _ (gx.out _ rfl))
        · clear hb
          go_wp2
          exact bodyPost_ret (v := .tuple #[.agg #[.int .i64 m, .slice A L.length c], .int .i64 1]) (by simp [results, Try.results10, go_sem, d0, d1]) rfl (fin.out _ (gx.out _ rfl))
      · clear hb
        go_wp2
        exact bodyPost_ret (v := .tuple #[.agg #[.int .i64 m, .slice A L.length c], .int .i64 1]) (by simp [results, Try.results10, go_sem, d0, d1]) rfl (fin.out _ (gx.out _ rfl))
    · clear hb
      go_wp2
      exact bodyPost_ret (v := .tuple #[.agg #[.int .i64 m, .slice A L.length c], .int .i64 1]) (by simp [results, Try.results10, go_sem, d0, d1]) rfl (fin.out _ (gx.out _ rfl))
  · rw [if_neg hb] at e1
    have q1 : decide (i < 1) = false := by simp; omega
    have q2 : decide (4294967295 < i) = false := by simp; omega
    have q3 : decide (k < 1) = false := by simp; omega
    have q4 : decide (8 < k) = false := by simp; omega
    clear hb
    have bx := (At.new w #[.int .i64 m, .slice A L.length c] 27).alloc (.cells #[.int .i64 0, .slice none 0 0] 27)
    have rx := At.newAt (w := w.alloc (.cells #[.int .i64 m, .slice A L.length c] 27)) (n := w.heap.size + 1) (by simp) #[.int .i64 0, .slice none 0 0] 27
    replace e1 := Lib.hid e1
    replace hkp := Lib.hid hkp
    replace he := Lib.hid he
    go_wp2_with fail
    refine (ck _ g1).mono ?_
    rintro e w2 ⟨rfl, g2⟩
    have G2 := g1.trans g2
    have bx2 := bx.gr g2
    have rx2 := rx.gr g2
    clear bx rx g1 g2 ck
    have b0 := bx2.cell 0
    have b1 := bx2.cell 1
    have r0 := rx2.free 0
    have r1 := rx2.free 1
    have p0 := rx2.cell 0
    have p1 := rx2.cell 1
    have rx3 := (rx2.put 0 (.int .i64 m)).put 1 (.slice A L.length c)
    have G3 := (G2.setCell (p := ⟨w.heap.size + 1, 0, none⟩) (by show w.heap.size ≤ w.heap.size + 1; omega) (.int .i64 m)).setCell (p := ⟨w.heap.size + 1, 1, none⟩) (by show w.heap.size ≤ w.heap.size + 1; omega) (.slice A L.length c)
    have d0 := rx3.cell 0
    have d1 := rx3.cell 1
    simp at d0 d1
    clear rx3
    cases hx : hasL L i
    · have e := e1.out
      rw [hx] at e
      have hK : decide (0 < K) = false := by
        have := hkp.out
        rw [hx] at this
        simpa using this
      by_cases hq : m ≤ L.length
      · have hqd : decide (m ≤ (L.length : Int)) = true := by simpa using hq
        simp [hq] at e
        subst e
        clear e1 hkp he hx hq
        go_wp2
        exact bodyPost_ret (v := .tuple #[.agg #[.int .i64 m, .slice A L.length c], .int .i64 10]) (by simp [results, Try.results10, go_sem, d0, d1]) rfl (fin.out _ G3)
      · simp [hq] at e
        exact absurd e he.out
    · have e := e1.out
      rw [hx] at e
      simp at e
      subst e
      have hK : decide (0 < K) = true := by
        have := hkp.out
        rw [hx] at this
        simpa using this
      clear e1 hkp he hx
      go_wp2
      exact bodyPost_ret (v := .tuple #[.agg #[.int .i64 m, .slice A L.length c], .int .i64 6]) (by simp [results, Try.results10, go_sem, d0, d1]) rfl (fin.out _ G3)

end Go.Proofs.Ytdbkklhnoflbpaa
