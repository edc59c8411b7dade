/-
  What is proved: what Down of the program's stack tells, round by round, where a slice in a cell grows meanwhile. No conditions but bounds.
-/
import Derived.Test.YtgjoipndhlngnaaSkm
import Derived.RangeFuncNested
import Derived.RangeFuncBound
import Derived.RangeFuncCalls
import Derived.RangeFuncLeaves
import Derived.Shelf.Abstract
import Derived.Shelf.RegionOpen
import Derived.OwnWalkIn
import Derived.TacticsInMore
import Derived.LoopNIn
import Derived.LoopIn
namespace Go.Proofs.Ytgjoipndhlngnaa
open Go.RowKit Go.Sort Go.Shelf Go.Deep

attribute [local go_sem] Oper.semAt_some

/-- The cell at b holds a slice that lies in block k. -/
def RowAtK (b : Nat) (W : World) (k : Nat) : Prop := ∃ A n c, W.cell? ⟨b, 0, none⟩ = some (.slice A n c) ∧ A.map (·.block) = some k
/-- The cell at b holds a slice that lies. -/
def ValK (b : Nat) (W : World) : Prop := ∃ A n c, W.cell? ⟨b, 0, none⟩ = some (.slice A n c) ∧ ∀ k, A.map (·.block) = some k → k < W.heap.size
/-- Neither that cell's block nor that slice's. -/
def FrK (b : Nat) (W : World) (k : Nat) : Prop := k ≠ b ∧ ¬ RowAtK b W k
/-- What a round keeps that writes that cell, or that slice, alone. -/
def KpK (b : Nat) (A B : World) : Prop := A.heap.size ≤ B.heap.size ∧ (ValK b A → ValK b B ∧ (∀ k, k < A.heap.size → RowAtK b B k → RowAtK b A k) ∧ ∀ k cs t, FrK b A k → At A k cs t → At B k cs t)
theorem KpK.refl (b : Nat) (A : World) : KpK b A A := ⟨Nat.le_refl _, fun h => ⟨h, fun _ _ h => h, fun _ _ _ _ h => h⟩⟩
theorem KpK.trans {b : Nat} {A B C : World} (h : KpK b A B) (k : KpK b B C) : KpK b A C := by
  refine ⟨Nat.le_trans h.1 k.1, fun hv => ?_⟩
  obtain ⟨h1, h2, h3⟩ := h.2 hv
  obtain ⟨k1, k2, k3⟩ := k.2 h1
  refine ⟨k1, fun i hi hr => h2 i hi (k2 i (Nat.lt_of_lt_of_le hi h.1) hr), fun i cs t hf ha => k3 i cs t ⟨hf.1, fun hr => hf.2 (h2 i ha.lt hr)⟩ (h3 i cs t hf ha)⟩
theorem KpK.val {b : Nat} {A B : World} (h : KpK b A B) (hv : ValK b A) : ValK b B := (h.2 hv).1
theorem KpK.fr {b k : Nat} {A B : World} {cs : Array Value} {t : TypeId} (h : KpK b A B) (hv : ValK b A) (hf : FrK b A k) (ha : At A k cs t) : FrK b B k ∧ At B k cs t :=
  ⟨⟨hf.1, fun hr => hf.2 ((h.2 hv).2.1 k ha.lt hr)⟩, (h.2 hv).2.2 k cs t hf ha⟩
theorem KpK.by {b : Nat} {A B : World} {row : Option Nat} (g : A.grownBy B row) (hr : row ≠ some b) (hn : ∀ r, row = some r → RowAtK b A r ∨ ∀ cs t, ¬ At A r cs t) : KpK b A B := by
  refine ⟨g.size, fun ⟨A0, n, c, hc, hl⟩ => ?_⟩
  have hB := g.cell hc (fun e => hr e.symm)
  refine ⟨⟨A0, n, c, hB, fun k hk => Nat.lt_of_lt_of_le (hl k hk) g.size⟩, fun k _ ⟨A1, n1, c1, h1, h2⟩ => ?_, fun k cs t hf ha => ha.grown g (fun e => ?_)⟩
  · rw [hB] at h1
    injection h1 with h1
    injection h1 with e1 e2 e3
    subst e1
    exact ⟨A0, n, c, hc, h2⟩
  · rcases hn k e.symm with h | h
    · exact hf.2 h
    · exact h cs t ha
theorem KpK.gr {b : Nat} {A B : World} (g : Gr A B) : KpK b A B := KpK.by (g.bl.byr none) (by simp) (fun r e => by cases e)
theorem KpK.book {b : Nat} (W : World) (l : Nat) (o o' : Obj) (hl : W.heap[l]? = some o) (ho : o.isCells = false) : KpK b W (W.putObj l o') := by
  by_cases hb : l = b
  · subst hb
    refine ⟨by simp [World.putObj], fun ⟨A0, n, c, hc, _⟩ => ?_⟩
    exfalso
    unfold World.cell? at hc
    simp only [hl] at hc
    cases o <;> simp_all [Obj.isCells]
  · refine KpK.by (row := some l) (grownBy_putObj' W l o') (by simpa using hb) (fun r e => .inr fun cs t ha => ?_)
    cases e
    unfold At at ha
    rw [ha] at hl
    cases hl
    cases ho
theorem FrK.new {b : Nat} {V w : World} (hv : ValK b V) (h : KpK b V w) (o : Obj) : FrK b (w.alloc o) w.heap.size := by
  obtain ⟨A0, n, c, hc, hl⟩ := h.val hv
  have hb := World.block_lt_of_cell? _ _ hc
  dsimp only at hb
  refine ⟨by omega, fun ⟨A1, n1, c1, h1, h2⟩ => ?_⟩
  have hB := (((Gr.refl w).alloc o).bl.byr none).cell hc (by simp)
  rw [hB] at h1
  injection h1 with h1
  injection h1 with e1 e2 e3
  subst e1
  have := hl _ h2
  omega
/-- The slice grown by an append, and put back. -/
theorem KpK.app {b n c n' c' : Nat} {t : TypeId} {A A' : Option Addr} {w w' : World} (hat : At w b #[.slice A n c] t) (hl : ∀ k, A.map (·.block) = some k → k < w.heap.size ∧ k ≠ b) (g : w.grownBy w' (A.map (·.block))) (hA : A.map (·.block) = A'.map (·.block) ∨ A'.map (·.block) = some w.heap.size) (hlt : ∀ k, A'.map (·.block) = some k → k < w'.heap.size) :
    KpK b w (w'.setCell ⟨b, 0, none⟩ (.slice A' n' c')) := by
  have hne : some b ≠ A.map (·.block) := fun e => (hl b e.symm).2 rfl
  have h1 := (hat.grown g hne).put 0 (.slice A' n' c')
  have gS := grownBy_setCell' w' b (.slice A' n' c')
  have hb : (w'.setCell ⟨b, 0, none⟩ (.slice A' n' c')).cell? ⟨b, 0, none⟩ = some (.slice A' n' c') := by simpa using h1.cell 0
  refine ⟨Nat.le_trans g.size gS.size, fun _ => ⟨⟨A', n', c', hb, fun k hk => Nat.lt_of_lt_of_le (hlt k hk) gS.size⟩, fun k hk ⟨A1, n1, c1, q1, q2⟩ => ?_, fun k cs t hf ha => ?_⟩⟩
  · rw [hb] at q1
    injection q1 with q1
    injection q1 with e1 e2 e3
    subst e1
    rcases hA with hA | hA
    · exact ⟨A, n, c, hat.cell 0, hA.trans q2⟩
    · rw [hA] at q2
      injection q2 with q2
      omega
  · refine (ha.grown g (fun e => hf.2 ⟨A, n, c, hat.cell 0, e.symm⟩)).grown gS (by simpa using hf.1)


theorem pDownK {w : World} {B pa c : Nat} {A : Option Addr} {L : List Ky} (h : PrS w B pa A c L) (hl : L.length ≤ 100000) :
    Calls Try.prog 26 #[.pointer (some ⟨pa, 0, none⟩)] w fun e w' => ∃ q A' c', e = .returned (.func (.func 37) #[] #[.pointer (some ⟨q, 0, none⟩)]) ∧ w.heap.size ≤ q ∧ At w' q #[.slice A' L.length c'] 24 ∧ OwP w' w.heap.size A' c' L ∧ Bl w w' := by
  go_enter Try.func26, Try.ntmps26
  go_wp2_with fail
  refine (pAllK h hl).mono ?_
  rintro e w3 ⟨A3, c3, rfl, own3, g3⟩
  go_wp2
  go_ret
  exact ⟨w3.heap.size, A3, c3, rfl, g3.size, At.new w3 _ _, own3.bl ((Bl.refl _).alloc _), g3.alloc _⟩

def kP (k : Ky) : Array Value := #[kV k]
theorem rev_take {L : List Ky} {j m : Nat} {p : Ky} (hj : j + 1 + m = L.length) (h : L[m]? = some p) : (L.reverse.take j) ++ [p] = L.reverse.take (j + 1) := by
  rw [List.take_add_one, List.getElem?_reverse (by omega), show L.length - 1 - j = m by omega, h]
  rfl
set_option maxRecDepth 100000 in
set_option maxHeartbeats 4000000 in
theorem downIter (bo : Nat) (n : Nat) (hn : 1 ≤ n) (l bq : Nat) (A : Option Addr) (c : Nat) (L : List Ky) (J Jx : List Ky → World → Prop) (hlen : L.length ≤ 100000)
    (_hA : ∀ pre A B, J pre A → A.grownBy B none → J pre B)
    (hY : ∀ pre p W1, J pre W1 → pre.length < L.length → YieldAt Fence.wide (n - 1) Try.prog l (kP p) W1 fun e W' =>
      (e = .returned (.bool true) ∧ J (pre ++ [p]) W' ∧ KpK bo W1 W') ∨ (e = .returned (.bool false) ∧ Jx (pre ++ [p]) W'))
    (V : World) (hRow : ∀ wr, KpK bo V wr → wr.cell? ⟨bq, 0, none⟩ = some (.slice A L.length c) ∧ shK.Rd wr A L) (h0 : J [] V) :
    CallsIn Fence.wide n Try.prog 37 #[.func (.yield l) #[] #[], .pointer (some ⟨bq, 0, none⟩)] V fun e W' => (∃ v, e = .returned v) ∧
      (J L.reverse W' ∨ (∃ pre : List Ky, pre <+: L.reverse ∧ Jx pre W')) := by
  refine callsIn_of_wp Try.func37 rfl trivial ?_ rfl
  simp only [Try.ntmps37, List.size_toArray, List.length_cons, List.length_nil, Nat.reduceAdd, Nat.reduceSub, Array.replicate_succ, Array.replicate_zero, List.push_toArray, List.append_toArray, List.nil_append, List.cons_append]
  have q0 := (hRow V (KpK.refl _ _)).1
  obtain ⟨N, hN⟩ : ∃ N, N = L.length := ⟨_, rfl⟩
  rw [← hN] at q0 hlen
  have hN' := Lib.hid hN
  clear hN
  gi_wp2
  clear q0
  gi_loopw [3] (fun i wr => ∃ (j : Nat) (pre : List Ky), j ≤ N ∧ i = .int .i64 ((N : Int) - 1 - j) ∧ Hid (pre = L.reverse.take j) ∧ J pre wr ∧ KpK bo V wr)
    (fun i _ => (RowKit.intOf i + 1).toNat)
  case atStart => exact ⟨0, [], Nat.zero_le _, by simp, Lib.hid (by simp), h0, KpK.refl _ _⟩
  case round =>
    obtain ⟨j, pre, hj, rfl, hpre, hJ, hK⟩ := hrel
    by_cases hlt : j < N
    · obtain ⟨m, hm⟩ : ∃ m, j + 1 + m = N := ⟨N - 1 - j, by omega⟩
      have hmz : (N : Int) - 1 - (j : Int) = (m : Int) := by omega
      rw [hmz]
      obtain ⟨p, hp⟩ := list_at (show m < L.length by have := hN'.out; omega)
      obtain ⟨r1, r2⟩ := hRow wr hK
      rw [← hN'.out] at r1
      obtain ⟨b, off, rfl, hrow⟩ := r2.opened (by have := hN'.out; omega)
      obtain ⟨e1, e2⟩ := k_at hrow hp
      have hpre2 : pre ++ [p] = L.reverse.take (j + 1) := by rw [hpre.out]; exact rev_take (by rw [← hN'.out]; exact hm) hp
      have hlen3 : pre.length < L.length := by rw [hpre.out, ← hN'.out]; have := List.length_take_le j L.reverse; omega
      have hYY := hY pre p wr hJ hlen3
      have rv : kP p = #[.agg #[.int .i64 p.1, .int .i64 p.2]] := rfl
      rw [rv] at hYY
      have HP2 := Lib.hid hpre2
      have hmN : m < N := by omega
      have hmL : m < L.length := by have := hN'.out; omega
      clear hp hrow hpre2 rv hlen3
      obtain ⟨fn, tmps, assign, body, hyy, hRR⟩ := hYY
      gi_wp2_with fail
      refine hRR.mono ?_
      rintro e W3 (⟨rfl, hJ4, hk4⟩ | ⟨rfl, hJx4⟩)
      · gi_wp2
        go_roundw
        case rel => exact ⟨j + 1, _, by omega, by congr 1; omega, HP2, hJ4, hK.trans hk4⟩
        case measure => simp [RowKit.intOf]
      · gi_wp2
        refine bodyPost_ret (results_none rfl _ _ _) rfl ?_
        exact ⟨⟨_, rfl⟩, .inr ⟨_, by rw [HP2.out]; exact List.take_prefix _ _, hJx4⟩⟩
    · obtain rfl : j = N := by omega
      have hf := hpre.out
      rw [List.take_of_length_le (by simp; have := hN'.out; omega)] at hf
      subst hf
      rw [show (j : Int) - 1 - (j : Int) = -1 by omega]
      gi_wp2
      go_end0
      exact ⟨⟨_, rfl⟩, .inl hJ⟩

theorem downStops (b n : Nat) (hn : 1 ≤ n) (bq : Nat) (A : Option Addr) (c : Nat) (L : List Ky) (hlen : L.length ≤ 100000)
    (V : World) (hRow : ∀ W' wr, Bl V W' → KpK b W' wr → wr.cell? ⟨bq, 0, none⟩ = some (.slice A L.length c) ∧ shK.Rd wr A L) :
    SeqStopsK Fence.wide n Try.prog 37 #[.pointer (some ⟨bq, 0, none⟩)] kP (KpK b)
      (fun ys => ys = L.reverse) (fun pre => pre <+: L.reverse) L.length V := fun l J Jx W' hW' hJ _ hY h0 => by
  have gW : Bl V W' := hW'
  refine (downIter b n hn l bq A c L J Jx hlen (fun pre A B h hg => hJ pre A B none h hg (fun r e => by cases e)) hY W' (fun wr hK => hRow W' wr gW hK) h0).mono ?_
  rintro e w ⟨h1, h2⟩
  refine ⟨h1, h2.imp (fun h => ⟨_, rfl, h⟩) id⟩

end Go.Proofs.Ytgjoipndhlngnaa
