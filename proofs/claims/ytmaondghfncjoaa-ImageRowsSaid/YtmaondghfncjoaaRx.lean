/-
  What is proved: a range over a function whose calls lay rows of their own between the rounds: a law for the statement, where the rounds always go on. No conditions but its own.
-/
import Derived.RangeFuncNested
namespace Go.Proofs.Ytmaondghfncjoaa
open Go Go.RowKit

/-- What is told stays, whatever blocks from B on are turned or laid. -/
def AnyFrom {β : Type} (B : Nat) (I : β → World → Prop) : Prop :=
  ∀ s W W' row, I s W → W.grownBy W' row → (∀ r, row = some r → B ≤ r) → I s W'
theorem AnyFrom.own {β : Type} {B : Nat} {I : β → World → Prop} (h : AnyFrom B I) : OwnFrom B I := fun s W W' row hs hg hr => h s W W' row hs hg (fun r e => (hr r e).1)
theorem AnyFrom.and {β : Type} {B : Nat} {I I' : β → World → Prop} (h : AnyFrom B I) (h' : AnyFrom B I') : AnyFrom B (fun s W => I s W ∧ I' s W) := fun s W W' row hs hg hr => ⟨h s W W' row hs.1 hg hr, h' s W W' row hs.2 hg hr⟩
theorem AnyFrom.le {β : Type} {B B' : Nat} {I : β → World → Prop} (h : AnyFrom B I) (hB : B ≤ B') : AnyFrom B' I := fun s W W' row hs hg hr => h s W W' row hs hg (fun r e => Nat.le_trans hB (hr r e))
theorem AnyFrom.put {β : Type} {B : Nat} {I : β → World → Prop} (h : AnyFrom B I) {s : β} {W : World} {l : Nat} (o : Obj) (hs : I s W) (hl : B ≤ l) : I s (W.putObj l o) :=
  h s W _ (some l) hs (grownBy_putObj' W l o) (fun r e => by cases e; exact hl)
theorem AnyFrom.lay {β : Type} {B : Nat} {I : β → World → Prop} (h : AnyFrom B I) {s : β} {W : World} (o : Obj) (hs : I s W) : I s (W.alloc o) :=
  h s W _ none hs (World.grownBy_alloc W o none) (fun r e => by cases e)

/-- Blocks of a kind stay as they lie. -/
structure Stays (K : Nat → Prop) (A B : World) : Prop where
  size : A.heap.size ≤ B.heap.size
  same : ∀ k, k < A.heap.size → K k → B.heap[k]? = A.heap[k]?
theorem Stays.refl (K : Nat → Prop) (A : World) : Stays K A A := ⟨Nat.le_refl _, fun _ _ _ => rfl⟩
theorem Stays.trans {K : Nat → Prop} {A B C : World} (h : Stays K A B) (k : Stays K B C) : Stays K A C :=
  ⟨Nat.le_trans h.size k.size, fun i hi hK => (k.same i (Nat.lt_of_lt_of_le hi h.size) hK).trans (h.same i hi hK)⟩
theorem Stays.put {K : Nat → Prop} (A : World) {l : Nat} (o : Obj) (hl : ¬ K l) : Stays K A (A.putObj l o) :=
  ⟨by simp, fun k _ hK => World.putObj_heap_other (fun e => hl (e ▸ hK))⟩

/-- What a call of an iterator comes to: it may lay blocks and turn what lies from the call's heap size on; what has come is a list that S knows; ahead of each round Pr is told; a round that goes on keeps the blocks that Kp names. -/
def Runs {α : Type} (n : Nat) (P : Program) (g : Nat) (lb : Array Value) (encs : α → Array Value) (Pr : List α → α → World → Prop) (Kp : α → Nat → Prop) (S : List α → Prop) (W : World) : Prop :=
  ∀ (l : Nat) (J : List α → World → Prop), AnyFrom W.heap.size J →
    (∀ pre x V, J pre V → Pr pre x V → YieldAt Fence.wide (n - 1) P l (encs x) V fun e V' => e = .returned (.bool true) ∧ J (pre ++ [x]) V' ∧ Stays (Kp x) V V') →
    J [] W →
    CallsIn Fence.wide n P g (#[.func (.yield l) #[] #[]] ++ lb) W fun e W' => (∃ v, e = .returned v) ∧ ∃ xs, S xs ∧ J xs W'

/-- How a round's body is left: it goes on. -/
def goesOn {α : Type} (B : Nat) (K : Nat → Prop) (I : List α → World → Prop) (xs : List α) (W : World) : Exit → Act → World → Prop
  | .normal, _, W' => KeepsFrom B W W' ∧ Stays K W W' ∧ I xs W'
  | _, _, _ => False

theorem range_runs {α : Type} {P : Program} {n : Nat} {g : Operand} {ps : Array Tmp} {assign body : Code} {Q : Exit → Act → World → Prop} {a : Act} {w : World} (hn : 1 ≤ n) {gf : Nat} {lb : Array Value}
    (hg : a.eval g = .func (.func gf) #[] lb) (eg : ∀ args v, (callFunc gf args).run P v = .ok (.enter gf args) v)
    {encs : α → Array Value} {Pr : List α → α → World → Prop} {Kp : α → Nat → Prop} {S : List α → Prop}
    (hseq : ∀ o o', Runs (n - 1) P gf lb encs Pr Kp S ((w.alloc o).alloc o')) (hps : ∀ x, (encs x).size = ps.size) (hK : ∀ x, ¬ Kp x (w.heap.size + 1))
    (I : List α → World → Prop) (hI : AnyFrom w.heap.size I) (h0 : I [] w) (hPr : ∀ pre, OwnFrom w.heap.size (Pr pre)) (a₁ : α → Act)
    (hassign : ∀ (l : Nat) (x : α) (W : World) (K : Act → World → Prop), K (a₁ x) W →
      assign.wpIn (Fence.wide.inRound l) (n - 1 - 1) P (Exit.then K (fun _ _ _ => False)) { tmps := (ps.zip (encs x)).foldl (fun t (p, v) => t.setIfInBounds p v) a.tmps, defers := [] } W)
    (hbody : ∀ (l : Nat) (pre : List α) (x : α) (W : World), I pre W → Pr pre x W → body.wpIn (Fence.wide.inRound l) (n - 1 - 1) P (goesOn w.heap.size (Kp x) I (pre ++ [x]) W) (a₁ x) W)
    (hdone : ∀ (D : Nat) (xs : List α) (W : World), w.heap.size ≤ D → S xs → I xs W → W.heap[D]? = some (.deferred (some [])) → Q .normal { a with defers := { target := .collected D, args := #[] } :: a.defers } W) :
    (Code.rangeFunc g ps assign body).wpIn Fence.wide n P Q a w := by
  refine wpIn_rangeFunc fun fn hfn => ?_
  obtain ⟨rc, hrc⟩ : ∃ rc : LoopState → Loop, rc = fun st => { state := st, pending := none, fn, tmps := a.tmps, params := ps, assign, body, defers := w.heap.size } := ⟨_, rfl⟩
  obtain ⟨B, hB⟩ : ∃ B, B = w.heap.size := ⟨_, rfl⟩
  obtain ⟨W1, hW1⟩ : ∃ W1, W1 = (w.alloc (.deferred (some []))).alloc (.loop (rc .ready)) := ⟨_, rfl⟩
  have hz : W1.heap.size = B + 2 := by rw [hW1, hB]; simp
  have at1 : W1.heap[B + 1]? = some (.loop (rc .ready)) := by
    have := World.alloc_heap_new (w.alloc (.deferred (some []))) (.loop (rc .ready))
    rw [World.size_alloc, ← hW1, ← hB] at this
    exact this
  have at0 : W1.heap[B]? = some (.deferred (some [])) := by
    rw [hW1, hB]
    exact (Below.heap_alloc _ _ _ (by simp)).trans (World.alloc_heap_new w _)
  have in1 : I [] W1 := by rw [hW1]; exact hI.lay _ (hI.lay _ h0)
  have sq := hseq (.deferred (some [])) (.loop (rc .ready))
  rw [← hW1] at sq
  rw [← hB] at hI hPr hK
  refine ⟨B + 1, [{ target := .collected B, args := #[] }], W1, { target := .fn (.func gf) lb, args := #[.func (.yield (B + 1)) #[] #[]] }, W1, gf, #[.func (.yield (B + 1)) #[] #[]] ++ lb, W1, ?enter, ?call, ?led, ?goes, fun _ => hn, ?told⟩
  case enter =>
    rw [hW1, hrc, hB]
    exact run_enterLoop_outer _ _ _ _ _
  case call =>
    simp only [resolve, hg]
    simp [go_sem]
  case led => intro f' _; trivial
  case goes => simp [invoke, go_sem, eg]
  case told =>
    refine (sq (B + 1) (fun pre V => I pre V ∧ V.heap[B + 1]? = some (.loop (rc .ready)) ∧ V.heap[B]? = some (.deferred (some [])))
      (fun s X Y row hs g' hr => ?_) (fun pre x V hJ hp => ?_) ⟨in1, at1, at0⟩).mono ?_
    · obtain ⟨hi, hl, hd⟩ := hs
      have ne : ∀ k, k < B + 2 → some k ≠ row := fun k hk e => by have := hr k e.symm; omega
      exact ⟨hI s X Y row hi g' (fun r e => by have := hr r e; omega), (g'.block _ (Array.getElem?_eq_some_iff.1 hl).1 (ne _ (by omega))).trans hl, (g'.block _ (Array.getElem?_eq_some_iff.1 hd).1 (ne _ (by omega))).trans hd⟩
    · obtain ⟨hi, hl, hd⟩ := hJ
      have lt : B + 1 < V.heap.size := (Array.getElem?_eq_some_iff.1 hl).1
      have hy := run_yield (P := P) (args := encs x) hl (by rw [hrc]; exact hps x)
      refine ⟨_, _, _, _, hy, roundIn_of_wpIn trivial ?_⟩
      rw [hrc]
      refine hassign _ x V _ ⟨_, run_beginRound hl (by rw [hrc]), ?_⟩
      obtain ⟨bz, hbz⟩ : ∃ bz : Loop, bz = { rc .ready with state := .busy } := ⟨_, rfl⟩
      rw [← hbz]
      have hl2 : (V.putObj (B + 1) (.loop bz)).heap[B + 1]? = some (.loop bz) := World.putObj_heap_same lt
      have hd2 : (V.putObj (B + 1) (.loop bz)).heap[B]? = some (.deferred (some [])) := (World.putObj_heap_other (by omega)).trans hd
      have hbd := hbody (B + 1) pre x (V.putObj (B + 1) (.loop bz)) (hI.put _ hi (by omega)) ((hPr pre).putObj _ hp (by omega) hl rfl)
      rw [← hB] at hbd
      refine wpIn_mono hbd ?_
      rintro e a3 V3 hq
      cases e with
      | normal =>
        obtain ⟨hk3, hs3, hi3⟩ := hq
        have hl3 := hk3.same _ _ (by omega) hl2 rfl
        have hd3 := hk3.same _ _ (by omega) hd2 rfl
        have lt3 := (Array.getElem?_eq_some_iff.1 hl3).1
        have he := run_endRound (P := P) none hl3
        have hst : ({ bz with state := if (none : Option Code).isNone then .ready else .done, pending := none } : Loop) = rc .ready := by rw [hbz, hrc]; rfl
        rw [hst] at he
        exact ⟨_, _, he, rfl, ⟨hI.put _ hi3 (by omega), (by have := World.putObj_heap_same (o := Obj.loop (rc .ready)) lt3; rw [hrc] at this ⊢; exact this), (World.putObj_heap_other (by omega)).trans hd3⟩, ((Stays.put V _ (hK x)).trans hs3).trans (Stays.put V3 _ (hK x))⟩
      | ret => exact hq.elim
      | exit id => exact hq.elim
      | goto t => exact hq.elim
      | panic ch => exact hq.elim
      | outgrown => exact hq.elim
    · rintro e W2 ⟨⟨v, rfl⟩, xs, hS, hi, hl, hd⟩
      have he := run_endLoop (P := P) hl (by rw [hrc]; simp)
      exact ⟨_, _, he, by rw [hrc]; exact hdone _ xs _ (by omega) hS (hI.put _ hi (by omega)) ((World.putObj_heap_other (by omega)).trans hd)⟩

end Go.Proofs.Ytmaondghfncjoaa
