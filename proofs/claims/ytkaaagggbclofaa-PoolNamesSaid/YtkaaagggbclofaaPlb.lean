/-
  What is proved: how a map of pointers reads, and what a look-up tells; how a pool lies, and what single stores leave of it. No conditions.
-/
import Derived.Test.YtkaaagggbclofaaPla
import Derived.Test.YtkaaagggbclofaaZz2
import Derived.Test.YtkaaagggbclofaaZz8
namespace Go.Proofs.Ytkaaagggbclofaa
open Go.ChangeShapes Go.WideShapes Go.ChangeAt Go.RowKit Go.Joins Go.Sort Go.Deep Go.Maps

/-- How a pointer among a map's elements reads: its block. -/
def pElem : Value → Option (DataW Unit × List MemPlace)
  | .pointer (some ⟨b, 0, none⟩) => some (.lit (.int .i64 b), [])
  | .pointer none => some (.lit (.int .i64 (-1)), [])
  | _ => none
theorem pElem_inv {v : Value} {z : DataW Unit × List MemPlace} (h : pElem v = some z) : (∃ b : Nat, v = .pointer (some ⟨b, 0, none⟩) ∧ z.1 = .lit (.int .i64 b)) ∨ (v = .pointer none ∧ z.1 = .lit (.int .i64 (-1))) := by
  unfold pElem at h
  split at h
  · cases h; exact .inl ⟨_, rfl, rfl⟩
  · cases h; exact .inr ⟨rfl, rfl⟩
  · cases h
theorem zeroPtr (w : World) : (zeroValue 85).run Try.prog w = .ok (.pointer none) w := by kernel_rfl
/-- Block b is a map of pointers that reads as this list. -/
def Pm (w : World) (b : Nat) (M : List Ik) : Prop := w.ownsMap Try.prog 3 pElem b M.length (dmap M)
theorem Pm.of {w : World} {b n : Nat} {L : List Ik} (h : w.ownsMap Try.prog 3 pElem b n (dmap L)) : Pm w b L := by
  have := tight h
  rw [size_dmap] at this
  exact this
theorem Pm.lt {w : World} {b : Nat} {L : List Ik} (h : Pm w b L) : b < w.heap.size := World.ownsMap.lt h
theorem Pm.by {w w' : World} {b : Nat} {L : List Ik} (h : Pm w b L) {row : Option Nat} (g : w.grownBy w' row) (hne : some b ≠ row) : Pm w' b L := World.ownsMap.kept h g hne
theorem Pm.bl {w w' : World} {b : Nat} {L : List Ik} (h : Pm w b L) (g : Bl w w') : Pm w' b L := h.by (g.byr none) (by simp)
theorem Pm.cell {w : World} {b : Nat} {L : List Ik} (h : Pm w b L) (p : Addr) (hp : p.block = b) : w.cell? p = none := by
  obtain ⟨es, clock, hb, _⟩ := h
  unfold World.cell?
  rw [hp, hb]
theorem Pm.ne {w : World} {a b : Nat} {L : List Ik} {cs : Array Value} {t : TypeId} (h : Pm w b L) (g : At w a cs t) : a ≠ b := by
  rintro rfl
  obtain ⟨es, clock, hb, _⟩ := h
  unfold At at g
  rw [hb] at g
  cases g

section
variable {ops : Array Oper} {rest : List Oper} {o : Oper} {a : Act} {w : World} {Q : Exit → Act → World → Prop}
/-- A name is looked up. -/
theorem wp_lookN (hgd : o.guard = none) (m x : Operand) (hop : o.op = Op.lookup 63 m x true) (b : Nat) (N : List Ik) (i : Int) (hm : a.eval m = .map (some b)) (hx : a.eval x = .int .i64 i) (h : Mp w b N) (hi : I64 i)
    (n : Int) (hn : kindL N i = n) (t : Bool) (ht : hasL N i = t) (hK : wpList Try.prog ops Q rest (a.put o.dst (.tuple #[.int .i64 n, .bool t])) w) : wpList Try.prog ops Q (o :: rest) a w := by
  refine wpList_lookup_own_ok_int _ hgd m x 63 hop 3 3 .i64 keyInt Try.underlying63 Try.underlying3 (zeroInt _) b _ _ hm h _ _ hx (keyOf_int_mk Try.underlying3 (wf64 hi)) ?_
  intro c hat _
  rw [atKey_dmap0] at hat
  injection hat with hat
  injection hat with _ hat
  subst hat
  rw [has_dmap, hn, ht]
  exact hK
/-- A buffer is looked up that is there. -/
theorem wp_lookP1 (hgd : o.guard = none) (m x : Operand) (hop : o.op = Op.lookup 64 m x true) (b : Nat) (M : List Ik) (i : Int) (hm : a.eval m = .map (some b)) (hx : a.eval x = .int .i64 i) (h : Pm w b M) (hi : I64 i)
    (q : Nat) (hn : kindL M i = q) (ht : hasL M i = true) (hK : wpList Try.prog ops Q rest (a.put o.dst (.tuple #[.pointer (some ⟨q, 0, none⟩), .bool true])) w) : wpList Try.prog ops Q (o :: rest) a w := by
  refine wpList_lookup_own_ok _ hgd m x 64 hop 3 85 keyInt Try.underlying64 pElem (zeroPtr _) _ _ rfl b _ _ hm h _ _ hx (keyOf_int_mk Try.underlying3 (wf64 hi)) ?_
  intro v ps hv
  rw [atKey_dmap, ht, hn] at hv
  rw [has_dmap, ht]
  rcases pElem_inv hv with ⟨c, rfl, hc⟩ | ⟨rfl, hc⟩
  · simp at hc
    obtain rfl : q = c := by omega
    exact hK
  · simp at hc
/-- .. that is not. -/
theorem wp_lookP0 (hgd : o.guard = none) (m x : Operand) (hop : o.op = Op.lookup 64 m x true) (b : Nat) (M : List Ik) (i : Int) (hm : a.eval m = .map (some b)) (hx : a.eval x = .int .i64 i) (h : Pm w b M) (hi : I64 i)
    (ht : hasL M i = false) (hK : wpList Try.prog ops Q rest (a.put o.dst (.tuple #[.pointer none, .bool false])) w) : wpList Try.prog ops Q (o :: rest) a w := by
  refine wpList_lookup_own_ok _ hgd m x 64 hop 3 85 keyInt Try.underlying64 pElem (zeroPtr _) _ _ rfl b _ _ hm h _ _ hx (keyOf_int_mk Try.underlying3 (wf64 hi)) ?_
  intro v ps hv
  rw [atKey_dmap, ht] at hv
  rw [has_dmap, ht]
  rcases pElem_inv hv with ⟨c, rfl, hc⟩ | ⟨rfl, hc⟩
  · simp at hc
  · exact hK
/-- A buffer that is there, without 'ok'. -/
theorem run_lookQ {b : Nat} {M : List Ik} {i : Int} (h : Pm w b M) (hi : I64 i) {q : Nat} (hn : kindL M i = q) (ht : hasL M i = true) : (Instr.lookup 64 (.map (some b)) (.int .i64 i) false).run Try.prog w = .ok (.pointer (some ⟨q, 0, none⟩)) w := by
  obtain ⟨v, ps, hrun, hv⟩ := World.ownsMap.lookup (zd := .lit (.int .i64 (-1))) (zp := []) h keyInt Try.underlying64 (zeroPtr w) rfl (keyOf_int_mk Try.underlying3 (wf64 hi))
  rw [hrun]
  rw [atKey_dmap, ht, hn] at hv
  rcases pElem_inv hv with ⟨c, rfl, hc⟩ | ⟨rfl, hc⟩
  · simp at hc
    obtain rfl : q = c := by omega
    rfl
  · simp at hc
theorem wp_lookQ (hgd : o.guard = none) (m x : Operand) (hop : o.op = Op.lookup 64 m x false) (b : Nat) (M : List Ik) (i : Int) (hm : a.eval m = .map (some b)) (hx : a.eval x = .int .i64 i) (h : Pm w b M) (hi : I64 i)
    (q : Nat) (hn : kindL M i = q) (ht : hasL M i = true) (hK : wpList Try.prog ops Q rest (a.put o.dst (.pointer (some ⟨q, 0, none⟩))) w) : wpList Try.prog ops Q (o :: rest) a w := by
  refine wpList_plain hgd fun K' hK' => ?_
  unfold Oper.wp
  simp [execOp, hop, hm, hx, run_lookQ h hi hn ht, Result.andThen]
  exact hK' _ _ hK
end

/-- Nothing has turned but blocks of X, and what is new. -/
structure Kx (X : Nat → Prop) (w w' : World) : Prop where
  os : w'.os = w.os
  tape : w'.tape = w.tape
  output : w'.output = w.output
  size : w.heap.size ≤ w'.heap.size
  block : ∀ k, k < w.heap.size → ¬ X k → w'.heap[k]? = w.heap[k]?
theorem Kx.by {X : Nat → Prop} {w w' : World} {r : Nat} (g : w.grownBy w' (some r)) (h : X r) : Kx X w w' := ⟨g.os, g.tape, g.output, g.size, fun k hk hx => g.block k hk (fun e => hx (by cases e; exact h))⟩
theorem Kx.bl {X : Nat → Prop} {w w' : World} (g : Bl w w') : Kx X w w' := ⟨Below.os g, Below.tape g, Below.output g, g.size, fun k hk _ => Below.block g k hk⟩
theorem Kx.refl (X : Nat → Prop) (w : World) : Kx X w w := Kx.bl (Bl.refl w)
theorem Kx.trans {X Y : Nat → Prop} {a b c : World} (h : Kx X a b) (k : Kx Y b c) (hY : ∀ j, Y j → X j ∨ a.heap.size ≤ j) : Kx X a c :=
  ⟨k.os.trans h.os, k.tape.trans h.tape, k.output.trans h.output, Nat.le_trans h.size k.size, fun j hj hx => (k.block j (Nat.lt_of_lt_of_le hj h.size) (fun hy => by rcases hY j hy with h' | h'; exact hx h'; omega)).trans (h.block j hj hx)⟩
theorem Kx.then {X : Nat → Prop} {a b c : World} (h : Kx X a b) (k : Kx X b c) : Kx X a c := h.trans k fun _ => .inl
theorem Kx.gr {X : Nat → Prop} {a b c : World} (h : Kx X a b) (k : Bl b c) : Kx X a c := h.then (Kx.bl k)
theorem Kx.under {X : Nat → Prop} {w0 w w' : World} (h : Kx X w w') (hX : ∀ k, X k → w0.heap.size ≤ k) (g : Bl w0 w) : Bl w0 w' :=
  ⟨h.os.trans (Below.os g), h.tape.trans (Below.tape g), h.output.trans (Below.output g), Nat.le_trans g.size h.size, fun k hk => (h.block k (Nat.lt_of_lt_of_le hk g.size) (fun hx => by have := hX k hx; omega)).trans (Below.block g k hk)⟩
theorem Kx.cell {X : Nat → Prop} {w w' : World} (h : Kx X w w') {p : Addr} {v : Value} (hp : w.cell? p = some v) (hx : ¬ X p.block) : w'.cell? p = some v := by
  have hb := h.block p.block (World.block_lt_of_cell? w p hp) hx
  unfold World.cell? at *
  rw [hb]; exact hp

theorem At.kx {X : Nat → Prop} {w w' : World} {b : Nat} {cs : Array Value} {t : TypeId} (h : At w b cs t) (g : Kx X w w') (hx : ¬ X b) : At w' b cs t := by
  have := g.block b h.lt hx
  unfold At at *; rw [this]; exact h

/-- Where a buffer of the program lies: itself, its image, its colors. -/
structure Pq where
  bk : Nat
  pm : Nat
  pc : Nat
instance : Inhabited Pq := ⟨⟨0, 0, 0⟩⟩
def bkOf (Q : List Pq) (k : Nat) : Nat := (Q.getD k default).bk
theorem bkOf_at {Q : List Pq} {k : Nat} {q : Pq} (h : Q[k]? = some q) : bkOf Q k = q.bk := by unfold bkOf; rw [List.getD_eq_getElem?_getD, h]; rfl
/-- The blocks that a pool's calls may write to. -/
def PlX (pp nb bb : Nat) (Q : List Pq) (k : Nat) : Prop := k = pp ∨ k = nb ∨ k = bb ∨ ∃ q ∈ Q, k = q.bk ∨ k = q.pc
/-- A pool as it lies: its maps read as N and M. -/
structure PlS (w : World) (pp nb bb : Nat) (Q : List Pq) (S : List Bf) (N M : List Ik) : Prop where
  hd : At w pp #[.int .i64 (S.length : Int), .map (some nb), .map (some bb)] 66
  np : Mp w nb N
  bp : Pm w bb M
  ln : Q.length = S.length
  bf : ∀ (k : Nat) (s : Bf) (q : Pq), S[k]? = some s → Q[k]? = some q → At w q.bk #[.int .i64 s.id, .pointer (some ⟨q.pm, 0, none⟩), .int .i64 (s.hd : Int)] 87 ∧ Img w q.pm q.pc s.W s.H s.L
  dj : ∀ (j k : Nat) (q r : Pq), Q[j]? = some q → Q[k]? = some r → j ≠ k → q.bk ≠ r.bk ∧ q.pc ≠ r.pc
  nbb : nb ≠ bb
theorem At.neP {w : World} {a b : Nat} {cs ds : Array Value} {t u : TypeId} (h : At w a cs t) (k : At w b ds u) (hne : t ≠ u) : a ≠ b := by
  rintro rfl
  unfold At at h k
  rw [h] at k
  injection k with k
  injection k with _ k
  exact hne k
section
variable {w w' : World} {pp nb bb : Nat} {Q : List Pq} {S : List Bf} {N M : List Ik}
theorem PlS.bl (h : PlS w pp nb bb Q S N M) (g : Bl w w') : PlS w' pp nb bb Q S N M :=
  { h with hd := h.hd.bl g, np := h.np.bl g, bp := h.bp.bl g, bf := fun k s q h1 h2 => ⟨(h.bf k s q h1 h2).1.bl g, (h.bf k s q h1 h2).2.bl g⟩ }
theorem PlS.xlt (h : PlS w pp nb bb Q S N M) {k : Nat} (hx : PlX pp nb bb Q k) : k < w.heap.size := by
  rcases hx with rfl | rfl | rfl | ⟨q, hq, hk⟩
  · exact h.hd.lt
  · exact h.np.lt
  · exact h.bp.lt
  · obtain ⟨j, hj⟩ := List.getElem?_of_mem hq
    obtain ⟨s, hs⟩ := list_at (l := S) (k := j) (by rw [← h.ln]; exact (List.getElem?_eq_some_iff.1 hj).1)
    rcases hk with rfl | rfl
    · exact (h.bf j s q hs hj).1.lt
    · exact (h.bf j s q hs hj).2.cs.lt
theorem PlS.q (h : PlS w pp nb bb Q S N M) {k : Nat} {s : Bf} (hk : S[k]? = some s) : ∃ q, Q[k]? = some q := list_at (by rw [h.ln]; exact (List.getElem?_eq_some_iff.1 hk).1)
/-- Nothing that a pool's cells say has turned. -/
theorem PlS.same (h : PlS w pp nb bb Q S N M) {k : Nat} {s t : Bf} (hk : S[k]? = some s) (e1 : t.id = s.id) (e2 : t.hd = s.hd) (e3 : t.W = s.W) (e4 : t.H = s.H) (e5 : t.L = s.L) : PlS w pp nb bb Q (S.set k t) N M := by
  have hl := (List.getElem?_eq_some_iff.1 hk).1
  refine { h with hd := by rw [List.length_set]; exact h.hd, ln := by rw [List.length_set]; exact h.ln, bf := fun j x q h1 h2 => ?_ }
  rcases (getElem?_put hl).1 h1 with ⟨rfl, rfl⟩ | ⟨hj, h1⟩
  · rw [e1, e2, e3, e4, e5]; exact h.bf j s q hk h2
  · exact h.bf j x q h1 h2
/-- The names have turned. -/
theorem PlS.names (h : PlS w pp nb bb Q S N M) (g : w.grownBy w' (some nb)) {N' : List Ik} (hN : Mp w' nb N') : PlS w' pp nb bb Q S N' M := by
  refine { h with hd := h.hd.grown g (fun e => h.np.ne h.hd (Option.some.inj e)), np := hN, bp := h.bp.by g (fun e => h.nbb (Option.some.inj e).symm), bf := fun k s q h1 h2 => ?_ }
  have hb := h.bf k s q h1 h2
  exact ⟨hb.1.grown g (fun e => h.np.ne hb.1 (Option.some.inj e)), hb.2.kept g (fun e => h.np.ne hb.2.hd (Option.some.inj e)) (fun e => h.np.ne hb.2.cs (Option.some.inj e))⟩
/-- Those that are there have turned. -/
theorem PlS.those (h : PlS w pp nb bb Q S N M) (g : w.grownBy w' (some bb)) {M' : List Ik} (hM : Pm w' bb M') : PlS w' pp nb bb Q S N M' := by
  refine { h with hd := h.hd.grown g (fun e => h.bp.ne h.hd (Option.some.inj e)), np := h.np.by g (fun e => h.nbb (Option.some.inj e)), bp := hM, bf := fun k s q h1 h2 => ?_ }
  have hb := h.bf k s q h1 h2
  exact ⟨hb.1.grown g (fun e => h.bp.ne hb.1 (Option.some.inj e)), hb.2.kept g (fun e => h.bp.ne hb.2.hd (Option.some.inj e)) (fun e => h.bp.ne hb.2.cs (Option.some.inj e))⟩
/-- A buffer is held otherwise. -/
theorem PlS.held (h : PlS w pp nb bb Q S N M) {k : Nat} {s : Bf} {q : Pq} (hk : S[k]? = some s) (hq : Q[k]? = some q) (n : Nat) : PlS (w.setCell ⟨q.bk, 2, none⟩ (.int .i64 (n : Int))) pp nb bb Q (S.set k { s with hd := n }) N M := by
  have hl := (List.getElem?_eq_some_iff.1 hk).1
  have hb := h.bf k s q hk hq
  have g : w.grownBy (w.setCell ⟨q.bk, 2, none⟩ (.int .i64 (n : Int))) (some q.bk) := By.set (p := ⟨q.bk, 2, none⟩) (By.refl w _) _
  refine { h with hd := by rw [List.length_set]; exact h.hd.grown g (fun e => (h.hd.neP hb.1 (by decide)) (Option.some.inj e)), np := h.np.by g (fun e => h.np.ne hb.1 (Option.some.inj e).symm), bp := h.bp.by g (fun e => h.bp.ne hb.1 (Option.some.inj e).symm),
                  ln := by rw [List.length_set]; exact h.ln, bf := fun j x r h1 h2 => ?_ }
  rcases (getElem?_put hl).1 h1 with ⟨rfl, rfl⟩ | ⟨hj, h1⟩
  · rw [hq] at h2; cases h2
    exact ⟨by simpa using hb.1.put 2 (.int .i64 (n : Int)), hb.2.kept g (fun e => (hb.2.hd.neP hb.1 (by decide)) (Option.some.inj e)) (fun e => (hb.2.cs.neP hb.1 (by decide)) (Option.some.inj e))⟩
  · have hc := h.bf j x r h1 h2
    exact ⟨hc.1.grown g (fun e => (h.dj j k r q h2 hq hj).1 (Option.some.inj e)), hc.2.kept g (fun e => (hc.2.hd.neP hb.1 (by decide)) (Option.some.inj e)) (fun e => (hc.2.cs.neP hb.1 (by decide)) (Option.some.inj e))⟩
/-- A buffer's colors are otherwise. -/
theorem PlS.drawn (h : PlS w pp nb bb Q S N M) {k : Nat} {s : Bf} {q : Pq} (hk : S[k]? = some s) (hq : Q[k]? = some q) {L' : List Int} (g : w.grownBy w' (some q.pc)) (hI : Img w' q.pm q.pc s.W s.H L') : PlS w' pp nb bb Q (S.set k { s with L := L' }) N M := by
  have hl := (List.getElem?_eq_some_iff.1 hk).1
  have hb := h.bf k s q hk hq
  refine { h with hd := by rw [List.length_set]; exact h.hd.grown g (fun e => (h.hd.neP hb.2.cs (by decide)) (Option.some.inj e)), np := h.np.by g (fun e => h.np.ne hb.2.cs (Option.some.inj e).symm), bp := h.bp.by g (fun e => h.bp.ne hb.2.cs (Option.some.inj e).symm),
                  ln := by rw [List.length_set]; exact h.ln, bf := fun j x r h1 h2 => ?_ }
  rcases (getElem?_put hl).1 h1 with ⟨rfl, rfl⟩ | ⟨hj, h1⟩
  · rw [hq] at h2; cases h2
    exact ⟨hb.1.grown g (fun e => (hb.1.neP hb.2.cs (by decide)) (Option.some.inj e)), hI⟩
  · have hc := h.bf j x r h1 h2
    exact ⟨hc.1.grown g (fun e => (hc.1.neP hb.2.cs (by decide)) (Option.some.inj e)), hc.2.kept g (fun e => (hc.2.hd.neP hb.2.cs (by decide)) (Option.some.inj e)) (fun e => (h.dj j k r q h2 hq hj).2 (Option.some.inj e))⟩
/-- A buffer was made: its number, its name, itself. -/
theorem PlS.push (h : PlS w pp nb bb Q S N M) (g : Kx (fun k => k = pp ∨ k = nb ∨ k = bb) w w') {s : Bf} {q : Pq} {N' M' : List Ik} (hp : At w' pp #[.int .i64 ((S.length + 1 : Nat) : Int), .map (some nb), .map (some bb)] 66) (hN : Mp w' nb N') (hM : Pm w' bb M')
    (hb : At w' q.bk #[.int .i64 s.id, .pointer (some ⟨q.pm, 0, none⟩), .int .i64 (s.hd : Int)] 87) (hI : Img w' q.pm q.pc s.W s.H s.L) (h1 : w.heap.size ≤ q.bk) (h2 : w.heap.size ≤ q.pc) : PlS w' pp nb bb (Q ++ [q]) (S ++ [s]) N' M' := by
  refine ⟨by simpa using hp, hN, hM, by simp [h.ln], fun j x r e1 e2 => ?_, fun i j x r e1 e2 hij => ?_, h.nbb⟩
  · rcases getElem?_push.1 e1 with e1 | ⟨rfl, rfl⟩
    · have hj := (List.getElem?_eq_some_iff.1 e1).1
      rcases getElem?_push.1 e2 with e2 | ⟨rfl, rfl⟩
      · have hc := h.bf j x r e1 e2
        exact ⟨hc.1.kx g (by rintro (e | e | e); exact (hc.1.neP h.hd (by decide)) e; exact (h.np.ne hc.1) e; exact (h.bp.ne hc.1) e),
          { hc.2 with hd := hc.2.hd.kx g (by rintro (e | e | e); exact (hc.2.hd.neP h.hd (by decide)) e; exact (h.np.ne hc.2.hd) e; exact (h.bp.ne hc.2.hd) e), cs := hc.2.cs.kx g (by rintro (e | e | e); exact (hc.2.cs.neP h.hd (by decide)) e; exact (h.np.ne hc.2.cs) e; exact (h.bp.ne hc.2.cs) e) }⟩
      · have := h.ln; omega
    · rcases getElem?_push.1 e2 with e2 | ⟨_, rfl⟩
      · have := (List.getElem?_eq_some_iff.1 e2).1; have := h.ln; omega
      · exact ⟨hb, hI⟩
  · have old : ∀ (j : Nat) (r : Pq), Q[j]? = some r → r.bk < w.heap.size ∧ r.pc < w.heap.size := fun j r hr =>
      ⟨h.xlt (.inr (.inr (.inr ⟨r, List.mem_of_getElem? hr, .inl rfl⟩))), h.xlt (.inr (.inr (.inr ⟨r, List.mem_of_getElem? hr, .inr rfl⟩)))⟩
    rcases getElem?_push.1 e1 with e3 | ⟨e3, e4⟩
    · rcases getElem?_push.1 e2 with e5 | ⟨e5, e6⟩
      · exact h.dj i j x r e3 e5 hij
      · have := old i x e3; rw [e6]; omega
    · rcases getElem?_push.1 e2 with e5 | ⟨e5, e6⟩
      · have := old j r e5; rw [e4]; omega
      · omega
end
/-- What buffers are good for: at most n of them, none held more often. -/
structure OkS (n : Nat) (S : List Bf) : Prop where
  few : S.length ≤ n
  hds : ∀ s ∈ S, s.hd ≤ n
  ids : ∀ s ∈ S, I64 s.id
  w1 : ∀ s ∈ S, 1 ≤ s.W
  w2 : ∀ s ∈ S, s.W ≤ 256
  h1 : ∀ s ∈ S, 1 ≤ s.H
  h2 : ∀ s ∈ S, s.H ≤ 256
  len : ∀ s ∈ S, s.L.length = s.W * s.H
theorem OkS.nil : OkS 0 [] := ⟨by simp, by simp, by simp, by simp, by simp, by simp, by simp, by simp⟩
theorem OkS.up {n m : Nat} {S : List Bf} (h : OkS n S) (hn : n ≤ m) : OkS m S := { h with few := Nat.le_trans h.few hn, hds := fun s hs => Nat.le_trans (h.hds s hs) hn }
theorem mem_put {S : List Bf} {k : Nat} {t x : Bf} (h : x ∈ S.set k t) : x ∈ S ∨ x = t := List.mem_or_eq_of_mem_set h
theorem OkS.put {n : Nat} {S : List Bf} (h : OkS n S) {k : Nat} {s t : Bf} (hk : S[k]? = some s) (e1 : t.hd ≤ s.hd + 1) (e2 : t.id = s.id) (e3 : t.W = s.W) (e4 : t.H = s.H) (e5 : t.L.length = s.L.length) : OkS (n + 1) (S.set k t) := by
  have hs := List.mem_of_getElem? hk
  refine ⟨by rw [List.length_set]; have := h.few; omega, fun x hx => ?_, fun x hx => ?_, fun x hx => ?_, fun x hx => ?_, fun x hx => ?_, fun x hx => ?_, fun x hx => ?_⟩
  all_goals rcases mem_put hx with hx | rfl
  · have := h.hds x hx; omega
  · have := h.hds s hs; omega
  · exact h.ids x hx
  · rw [e2]; exact h.ids s hs
  · exact h.w1 x hx
  · rw [e3]; exact h.w1 s hs
  · exact h.w2 x hx
  · rw [e3]; exact h.w2 s hs
  · exact h.h1 x hx
  · rw [e4]; exact h.h1 s hs
  · exact h.h2 x hx
  · rw [e4]; exact h.h2 s hs
  · exact h.len x hx
  · rw [e5, e3, e4]; exact h.len s hs
theorem OkS.push {n : Nat} {S : List Bf} (h : OkS n S) {s : Bf} (h0 : s.hd = 0) (h1 : I64 s.id) (h2 : 1 ≤ s.W ∧ s.W ≤ 256) (h3 : 1 ≤ s.H ∧ s.H ≤ 256) (h4 : s.L.length = s.W * s.H) : OkS (n + 1) (S ++ [s]) := by
  refine ⟨by simp; exact h.few, fun x hx => ?_, fun x hx => ?_, fun x hx => ?_, fun x hx => ?_, fun x hx => ?_, fun x hx => ?_, fun x hx => ?_⟩
  all_goals rcases List.mem_append.1 hx with hx | hx
  all_goals try (rw [List.mem_singleton] at hx; subst hx)
  · have := h.hds x hx; omega
  · omega
  · exact h.ids x hx
  · exact h1
  · exact h.w1 x hx
  · exact h2.1
  · exact h.w2 x hx
  · exact h2.2
  · exact h.h1 x hx
  · exact h3.1
  · exact h.h2 x hx
  · exact h3.2
  · exact h.len x hx
  · exact h4

/-- The buffer of this number, if it is there. -/
def atS (S : List Bf) (n : Int) : Option Nat := if 0 ≤ n ∧ (S.getD n.toNat default).th = true then some n.toNat else none
theorem atS_some {S : List Bf} {n : Int} {k : Nat} (h : atS S n = some k) : ∃ s, n = (k : Int) ∧ S[k]? = some s ∧ s.th = true ∧ S.getD k default = s := by
  unfold atS at h
  split at h
  · rename_i hc
    cases h
    cases hg : S[n.toNat]? with
    | none => rw [List.getD_eq_getElem?_getD, hg] at hc; exact absurd hc.2 (by decide)
    | some s =>
      have e : S.getD n.toNat default = s := by rw [List.getD_eq_getElem?_getD, hg]; rfl
      exact ⟨s, by omega, rfl, by rw [← e]; exact hc.2, e⟩
  · cases h
theorem atS_none {S : List Bf} {n : Int} (h : atS S n = none) : n < 0 ∨ (S.length : Int) ≤ n ∨ ∃ (k : Nat) (s : Bf), n = (k : Int) ∧ S[k]? = some s ∧ s.th = false := by
  unfold atS at h
  split at h
  · cases h
  · rename_i hc
    by_cases h0 : n < 0
    · exact .inl h0
    · by_cases h1 : (S.length : Int) ≤ n
      · exact .inr (.inl h1)
      · obtain ⟨s, hs⟩ := list_at (l := S) (k := n.toNat) (by omega)
        refine .inr (.inr ⟨n.toNat, s, by omega, hs, ?_⟩)
        have e : S.getD n.toNat default = s := by rw [List.getD_eq_getElem?_getD, hs]; rfl
        rw [e] at hc
        cases ht : s.th
        · rfl
        · exact absurd ⟨by omega, ht⟩ hc
theorem th_hd {s : Bf} (h : s.th = false) : s.hd = 0 ∧ s.nm = false := by
  unfold Bf.th at h
  simp at h
  exact ⟨h.2, h.1⟩
theorem getD_at {S : List Bf} {k : Nat} {s : Bf} (h : S[k]? = some s) : S.getD k default = s := by rw [List.getD_eq_getElem?_getD, h]; rfl

/-! ### What steps make of buffers, and tell. -/
def hoS (S : List Bf) (n : Int) : List Bf := match atS S n with | some k => S.set k { S.getD k default with hd := (S.getD k default).hd + 1 } | none => S
def hoE (S : List Bf) (n : Int) : Int := match atS S n with | some _ => 0 | none => 5
def leS (S : List Bf) (n : Int) : List Bf := match atS S n with | some k => if (S.getD k default).hd = 0 then S else S.set k { S.getD k default with hd := (S.getD k default).hd - 1 } | none => S
def leI (S : List Bf) (n : Int) : Int := match atS S n with | some k => if (S.getD k default).hd = 0 then 0 else (S.getD k default).id | none => 0
def leB (S : List Bf) (n : Int) : Bool := match atS S n with | some k => if (S.getD k default).hd = 0 then false else (S.getD k default).nm && decide ((S.getD k default).hd = 1) | none => false
def dsS (S : List Bf) (i : Int) : List Bf := match plF i S with | some k => S.set k { S.getD k default with nm := false } | none => S
def fiE (S : List Bf) (i : Int) : Int := match plF i S with | some _ => 0 | none => 5
def wrS12 (S : List Bf) (i p r s t : Int) (bs : List Int) : List Bf := match plF i S with
  | some k => if 0 < (S.getD k default).hd then S else S.set k { S.getD k default with L := wtL (S.getD k default).W (S.getD k default).H (S.getD k default).L p r s t bs }
  | none => S
def wrE12 (S : List Bf) (i p r s t : Int) (bs : List Int) : Int := match plF i S with
  | some k => if 0 < (S.getD k default).hd then 8 else wtE (S.getD k default).W (S.getD k default).H p r s t bs
  | none => 5
def badW (w h : Int) : Prop := w < 1 ∨ 256 < w ∨ h < 1 ∨ 256 < h
instance (w h : Int) : Decidable (badW w h) := by unfold badW; exact inferInstance
def newB (i w h : Int) : Bf := ⟨i, true, 0, w.toNat, h.toNat, List.replicate (w.toNat * h.toNat) 0⟩
def mkS (S : List Bf) (i w h : Int) : List Bf := if (plF i S).isSome = true then S else if badW w h then S else S ++ [newB i w h]
def mkN (S : List Bf) (i w h : Int) : Int := if (plF i S).isSome = true then -1 else if badW w h then -1 else S.length
def mkE (S : List Bf) (i w h : Int) : Int := if (plF i S).isSome = true then 6 else if badW w h then 1 else 0
theorem OkS.ho {n : Nat} {S : List Bf} (h : OkS n S) (m : Int) : OkS (n + 1) (hoS S m) := by
  unfold hoS
  split
  · rename_i k hk
    obtain ⟨s, _, h2, _, h4⟩ := atS_some hk
    rw [h4]
    exact h.put h2 (Nat.le_refl _) rfl rfl rfl rfl
  · exact h.up (Nat.le_succ _)
theorem OkS.le {n : Nat} {S : List Bf} (h : OkS n S) (m : Int) : OkS (n + 1) (leS S m) := by
  unfold leS
  split
  · rename_i k hk
    obtain ⟨s, _, h2, _, h4⟩ := atS_some hk
    rw [h4]
    split
    · exact h.up (Nat.le_succ _)
    · exact h.put h2 (by simp; omega) rfl rfl rfl rfl
  · exact h.up (Nat.le_succ _)
theorem OkS.ds {n : Nat} {S : List Bf} (h : OkS n S) (i : Int) : OkS (n + 1) (dsS S i) := by
  unfold dsS
  split
  · rename_i k hk
    obtain ⟨s, h2, _⟩ := plF_some hk
    rw [getD_at h2]
    exact h.put h2 (Nat.le_succ _) rfl rfl rfl rfl
  · exact h.up (Nat.le_succ _)
theorem OkS.wr {n : Nat} {S : List Bf} (h : OkS n S) (i p r s t : Int) (bs : List Int) : OkS (n + 1) (wrS12 S i p r s t bs) := by
  unfold wrS12
  split
  · rename_i k hk
    obtain ⟨x, h2, _⟩ := plF_some hk
    rw [getD_at h2]
    split
    · exact h.up (Nat.le_succ _)
    · exact h.put h2 (Nat.le_succ _) rfl rfl rfl (wtL_len _ _ _ _ _ _ _ _)
  · exact h.up (Nat.le_succ _)
theorem OkS.mk' {n : Nat} {S : List Bf} (h : OkS n S) (i w k : Int) (hi : I64 i) : OkS (n + 1) (mkS S i w k) := by
  unfold mkS
  split
  · exact h.up (Nat.le_succ _)
  · split
    · exact h.up (Nat.le_succ _)
    · rename_i hb
      unfold badW at hb
      exact h.push rfl hi ⟨by show 1 ≤ w.toNat; omega, by show w.toNat ≤ 256; omega⟩ ⟨by show 1 ≤ k.toNat; omega, by show k.toNat ≤ 256; omega⟩ (by simp [newB])

/-- A pool. -/
structure PlR (w : World) (pp nb bb : Nat) (Q : List Pq) (S : List Bf) (n : Nat) : Prop where
  m : ∃ N M, PlS w pp nb bb Q S N M ∧ NmQ N S ∧ ThQ M S (bkOf Q)
  ok : OkS n S
theorem PlR.bl {w w' : World} {pp nb bb n : Nat} {Q : List Pq} {S : List Bf} (h : PlR w pp nb bb Q S n) (g : Bl w w') : PlR w' pp nb bb Q S n := by
  obtain ⟨⟨N, M, h1, h2, h3⟩, h4⟩ := h
  exact ⟨⟨N, M, h1.bl g, h2, h3⟩, h4⟩
theorem PlR.up {w : World} {pp nb bb n m : Nat} {Q : List Pq} {S : List Bf} (h : PlR w pp nb bb Q S n) (hn : n ≤ m) : PlR w pp nb bb Q S m := ⟨h.m, h.ok.up hn⟩
theorem PlR.xlt {w : World} {pp nb bb n : Nat} {Q : List Pq} {S : List Bf} (h : PlR w pp nb bb Q S n) {k : Nat} (hx : PlX pp nb bb Q k) : k < w.heap.size := by
  obtain ⟨⟨N, M, h1, h2, h3⟩, h4⟩ := h
  exact h1.xlt hx

end Go.Proofs.Ytkaaagggbclofaa
