/-
  What is proved: a range over a function whose round begins by laying the round's own variable: a law for the statement, where a round may go on, or leave. No conditions but its own.
-/
import Derived.RangeFuncNested
namespace Go.Proofs.Ytgjoipndhlngnaa
open Go Go.RowKit

theorem range_laid {α : Type} {P : Program} {n : Nat} {g : Operand} {ps : Array Tmp} {assign body : Code} {Q : Exit → Act → World → Prop} {a : Act} {w : World} (hn : 1 ≤ n) {gf : Nat} {lb : Array Value}
    (hg : a.eval g = .func (.func gf) #[] lb) (eg : ∀ args v, (callFunc gf args).run P v = .ok (.enter gf args) v)
    {encs : α → Array Value} {Kp : World → World → Prop} {S Sp : List α → Prop} {N : Nat} {w0 : World} (hseq : SeqStopsK Fence.wide (n - 1) P gf lb encs Kp S Sp N w0)
    (hKt : ∀ {A B C : World}, Kp A B → Kp B C → Kp A C) (hKb : ∀ (W : World) (l : Nat) (o o' : Obj), w.heap.size ≤ l → W.heap[l]? = some o → o.isCells = false → o.isWalk = false → Kp W (W.putObj l o'))
    (hKa : ∀ (W : World) (o : Obj), Kp W (W.alloc o)) (hb0 : Below w0.heap.size w0 w) (hps : ∀ x, (encs x).size = ps.size)
    (I : List α → World → Prop) (Ix : Code → List α → World → Prop) (hI : OwnFrom w.heap.size I) (hIx : ∀ c, OwnFrom w.heap.size (Ix c)) (h0 : I [] w) (Bx : α → Obj) (a₁ : α → Nat → Act)
    (hassign : ∀ (l : Nat) (x : α) (W : World) (K : Act → World → Prop), K (a₁ x W.heap.size) (W.alloc (Bx x)) →
      assign.wpIn (Fence.wide.inRound l) (n - 1 - 1) P (Exit.then K (fun _ _ _ => False)) { tmps := (ps.zip (encs x)).foldl (fun t (p, v) => t.setIfInBounds p v) a.tmps, defers := [] } W)
    (hbody : ∀ (l : Nat) (pre : List α) (x : α) (b : Nat) (W : World), I pre W → W.heap[b]? = some (Bx x) → w.heap.size + 2 ≤ b → pre.length < N → body.wpIn (Fence.wide.inRound l) (n - 1 - 1) P (ownPostG w.heap.size Kp I Ix (pre ++ [x]) W) (a₁ x b) W)
    (hdone : ∀ (D : Nat) (xs : List α) (W : World), w.heap.size ≤ D → S xs → I xs W → W.heap[D]? = some (.deferred (some [])) → Q .normal { a with defers := { target := .collected D, args := #[] } :: a.defers } W)
    (hstop : ∀ (D : Nat) (c : Code) (pre : List α) (W : World), w.heap.size ≤ D → Sp pre → Ix c pre W → W.heap[D]? = some (.deferred (some [])) → c.wpIn Fence.wide n P Q { a with defers := { target := .collected D, args := #[] } :: a.defers } W) :
    (Code.rangeFunc g ps assign body).wpIn Fence.wide n P Q a w := by
  refine wpIn_rangeFunc fun fn hfn => ?_
  obtain ⟨rc, hrc⟩ : ∃ rc : LoopState → Option Code → Loop, rc = fun st pe => { state := st, pending := pe, fn, tmps := a.tmps, params := ps, assign, body, defers := w.heap.size } := ⟨_, rfl⟩
  obtain ⟨B, hB⟩ : ∃ B, B = w.heap.size := ⟨_, rfl⟩
  obtain ⟨W1, hW1⟩ : ∃ W1, W1 = (w.alloc (.deferred (some []))).alloc (.loop (rc .ready none)) := ⟨_, rfl⟩
  have hz : W1.heap.size = B + 2 := by rw [hW1, hB]; simp
  have at1 : W1.heap[B + 1]? = some (.loop (rc .ready none)) := by
    have := World.alloc_heap_new (w.alloc (.deferred (some []))) (.loop (rc .ready none))
    rw [World.size_alloc, ← hW1, ← hB] at this
    exact this
  have at0 : W1.heap[B]? = some (.deferred (some [])) := by
    rw [hW1, hB]
    exact (Below.heap_alloc _ _ _ (by simp)).trans (World.alloc_heap_new w _)
  have in1 : I [] W1 := by rw [hW1]; exact hI.alloc _ (hI.alloc _ h0)
  have b1 : Below w0.heap.size w0 W1 := by
    rw [hW1]; exact hb0.trans ((((Below.refl _ w).alloc (Nat.le_refl _) _).alloc (by simp) _).mono hb0.size)
  rw [← hB] at hI hIx hKb
  refine ⟨B + 1, [{ target := .collected B, args := #[] }], W1, { target := .fn (.func gf) lb, args := #[.func (.yield (B + 1)) #[] #[]] }, W1, gf, #[.func (.yield (B + 1)) #[] #[]] ++ lb, W1, ?enter, ?call, ?led, ?goes, fun _ => hn, ?told⟩
  case enter =>
    rw [hW1, hrc, hB]
    exact run_enterLoop_outer _ _ _ _ _
  case call =>
    simp only [resolve, hg]
    simp [go_sem]
  case led => intro f' _; trivial
  case goes => simp [invoke, go_sem, eg]
  case told =>
    have up : ∀ {A : World} {row : Option Nat}, (∀ r, row = some r → W1.heap.size ≤ r ∧ ∃ o : Obj, A.heap[r]? = some o ∧ o.isWalk = true) → (∀ r, row = some r → B ≤ r ∧ ∃ o : Obj, A.heap[r]? = some o ∧ o.isCells = false) :=
      fun hr r e => by obtain ⟨h1, o, ho, hw⟩ := hr r e; exact ⟨by omega, o, ho, Obj.not_cells_of_walk hw⟩
    refine (hseq (B + 1) (fun pre V => I pre V ∧ V.heap[B + 1]? = some (.loop (rc .ready none)) ∧ V.heap[B]? = some (.deferred (some [])))
      (fun pre V => ∃ c, Ix c pre V ∧ V.heap[B + 1]? = some (.loop (rc .done (some c))) ∧ V.heap[B]? = some (.deferred (some [])))
      W1 b1 (fun s X Y row hs g' hr => ?_) (fun s X Y row hs g' hr => ?_) ?_ ⟨in1, at1, at0⟩).mono ?_
    · have ne : ∀ k, k < B + 2 → some k ≠ row := fun k hk e => by have := (hr k e.symm).1; omega
      exact ⟨hI s X Y row hs.1 g' (up hr), (g'.block _ (Array.getElem?_eq_some_iff.1 hs.2.1).1 (ne _ (by omega))).trans hs.2.1, (g'.block _ (Array.getElem?_eq_some_iff.1 hs.2.2).1 (ne _ (by omega))).trans hs.2.2⟩
    · obtain ⟨c, hc, hl, hd⟩ := hs
      have ne : ∀ k, k < B + 2 → some k ≠ row := fun k hk e => by have := (hr k e.symm).1; omega
      exact ⟨c, hIx c s X Y row hc g' (up hr), (g'.block _ (Array.getElem?_eq_some_iff.1 hl).1 (ne _ (by omega))).trans hl, (g'.block _ (Array.getElem?_eq_some_iff.1 hd).1 (ne _ (by omega))).trans hd⟩
    · rintro pre x V ⟨hi, hl, hd⟩ hlen
      have lt : B + 1 < V.heap.size := (Array.getElem?_eq_some_iff.1 hl).1
      have hy := run_yield (P := P) (args := encs x) hl (by rw [hrc]; exact hps x)
      rw [hrc] at hy
      refine ⟨fn, _, assign, body, hy, roundIn_of_wpIn hfn ?_⟩
      have hla : (V.alloc (Bx x)).heap[B + 1]? = some (.loop (rc .ready none)) := (Below.heap_alloc _ _ _ lt).trans hl
      have hda : (V.alloc (Bx x)).heap[B]? = some (.deferred (some [])) := (Below.heap_alloc _ _ _ (by omega)).trans hd
      have hba : (V.alloc (Bx x)).heap[V.heap.size]? = some (Bx x) := World.alloc_heap_new V _
      have hia := hI.alloc (Bx x) hi
      have hka := hKa V (Bx x)
      have hlta : B + 1 < (V.alloc (Bx x)).heap.size := (Array.getElem?_eq_some_iff.1 hla).1
      refine hassign _ x V _ ⟨_, run_beginRound hla (by rw [hrc]), ?_⟩
      have hVb : B + 2 ≤ V.heap.size := by omega
      generalize V.alloc (Bx x) = U at *
      obtain ⟨bz, hbz⟩ : ∃ bz : Loop, bz = { rc .ready none with state := .busy } := ⟨_, rfl⟩
      rw [← hbz]
      have hl2 : (U.putObj (B + 1) (.loop bz)).heap[B + 1]? = some (.loop bz) := World.putObj_heap_same hlta
      have hd2 : (U.putObj (B + 1) (.loop bz)).heap[B]? = some (.deferred (some [])) := (World.putObj_heap_other (by omega)).trans hda
      have hb2 : (U.putObj (B + 1) (.loop bz)).heap[V.heap.size]? = some (Bx x) := (World.putObj_heap_other (by omega)).trans hba
      have hk2 : Kp V (U.putObj (B + 1) (.loop bz)) := hKt hka (hKb _ _ _ _ (by omega) hla rfl rfl)
      have hbd := hbody (B + 1) pre x V.heap.size (U.putObj (B + 1) (.loop bz)) (hI.putObj _ hia (by omega) hla rfl) hb2 (by omega) hlen
      rw [← hB] at hbd
      refine wpIn_mono hbd ?_
      have fin : ∀ (jump : Option Code) (W3 : World), KeepsFrom B (U.putObj (B + 1) (.loop bz)) W3 →
          (Instr.endRound (B + 1) jump).run P W3 = .ok (.bool jump.isNone) (W3.putObj (B + 1) (.loop (rc (if jump.isNone then .ready else .done) jump))) ∧
          W3.heap[B + 1]? = some (.loop bz) ∧
          (W3.putObj (B + 1) (.loop (rc (if jump.isNone then .ready else .done) jump))).heap[B + 1]? = some (.loop (rc (if jump.isNone then .ready else .done) jump)) ∧
          (W3.putObj (B + 1) (.loop (rc (if jump.isNone then .ready else .done) jump))).heap[B]? = some (.deferred (some [])) := fun jump W3 hk3 => by
        have hl3 := hk3.same _ _ (by omega) hl2 rfl
        have he := run_endRound (P := P) jump hl3
        have hst : ({ bz with state := if jump.isNone then .ready else .done, pending := jump } : Loop) = rc (if jump.isNone then .ready else .done) jump := by rw [hbz, hrc]
        rw [hst] at he
        exact ⟨he, hl3, World.putObj_heap_same (Array.getElem?_eq_some_iff.1 hl3).1, (World.putObj_heap_other (by omega)).trans (hk3.same _ _ (Nat.le_refl _) hd2 rfl)⟩
      rintro e a3 W3 hp
      cases e with
      | normal =>
        obtain ⟨hk3, hkp3, hi3⟩ := hp
        obtain ⟨hr, hl3, hl4, hk4⟩ := fin none W3 hk3
        exact ⟨_, _, hr, .inl ⟨rfl, ⟨hI.putObj _ hi3 (by omega) hl3 rfl, hl4, hk4⟩, hKt (hKt hk2 hkp3) (hKb _ _ _ _ (by omega) hl3 rfl rfl)⟩⟩
      | ret =>
        obtain ⟨hk3, hi3⟩ := hp
        obtain ⟨hr, hl3, hl4, hk4⟩ := fin (some .ret) W3 hk3
        exact ⟨_, _, hr, .inr ⟨rfl, .ret, (hIx _).putObj _ hi3 (by omega) hl3 rfl, hl4, hk4⟩⟩
      | exit id =>
        obtain ⟨hk3, hi3⟩ := hp
        obtain ⟨hr, hl3, hl4, hk4⟩ := fin (some (.exit id)) W3 hk3
        exact ⟨_, _, hr, .inr ⟨rfl, .exit id, (hIx _).putObj _ hi3 (by omega) hl3 rfl, hl4, hk4⟩⟩
      | goto t =>
        obtain ⟨hk3, hi3⟩ := hp
        obtain ⟨hr, hl3, hl4, hk4⟩ := fin (some (.goto t)) W3 hk3
        exact ⟨_, _, hr, .inr ⟨rfl, .goto t, (hIx _).putObj _ hi3 (by omega) hl3 rfl, hl4, hk4⟩⟩
      | panic ch => exact hp.elim
      | outgrown => exact hp.elim
    · rintro e W2 ⟨⟨v, rfl⟩, (⟨xs, hS, hi, hl, hd⟩ | ⟨pre, hSp, c, hi, hl, hd⟩)⟩
      · exact ⟨none, _, by have := run_endLoop (P := P) hl (by rw [hrc]; simp); rw [hrc] at this; exact this, hdone _ xs _ (by omega) hS (hI.putObj _ hi (by omega) hl rfl) ((World.putObj_heap_other (by omega)).trans hd)⟩
      · exact ⟨some c, _, by have := run_endLoop (P := P) hl (by rw [hrc]; simp); rw [hrc] at this; exact this, hstop _ c pre _ (by omega) hSp ((hIx c).putObj _ hi (by omega) hl rfl) ((World.putObj_heap_other (by omega)).trans hd)⟩

end Go.Proofs.Ytgjoipndhlngnaa
