/-
  What is proved: what Set, Fill, Copy and Write do, of package image and of the document's images, in one form: a list of colors and a number. Conditions: sides of an image; colors are of 32 bits, bytes are bytes. what a world keeps of which nothing has turned but some blocks. No conditions. how a map of pointers reads, and what a look-up tells; how a pool lies, and what single stores leave of it. No conditions. what each function of package pool does to a pool that reads as a list of buffers. Conditions: at most 1000 buffers, none held more than 1000 times; numbers are ints. what Let, Destroy, Write and Make of package pool do to a pool that reads as a list of buffers. Conditions: at most 1000 buffers, none held more than 1000 times; numbers are ints. what Destroy, Write, Make and There of package pool do to a pool that reads as a list of buffers. Conditions: at most 1000 buffers, none held more than 1000 times; numbers are ints. contracts of the library calls that this program reaches, by other names. No conditions but their own. rows of ints; what ids' Of hands back, and what the statements' own example comes to. Conditions: the table's ids rise and may be. what Make and There of package pool do to a pool that reads as a list of buffers. Conditions: at most 1000 buffers, none held more than 1000 times; numbers are ints. the map of what each operation of package client does, and what is told of an error. No conditions. an element of a row that a call owns is turned, all of its cells, one by one. No conditions. what Hull hands back of a row of rectangles.
-/
import Derived.Test.YtablogiielclaaaGreatZz18
import Derived.Test.YtablogiielclaaaGreatZz13
import Derived.Test.YtablogiielclaaaGreatZz10
import Derived.Test.YtablogiielclaaaGreatZz1
import Derived.Test.YtablogiielclaaaGreatZz3
import Derived.Test.YtablogiielclaaaGreatZz8
import Derived.Deep.RegionHeld3
import Derived.Lib.OwnBridge
import Derived.Deep.MidRow
import Derived.Lib.Hide
import Derived.Handy
namespace Go.Proofs.YtablogiielclaaaGreat
open Go.RowKit Go.Sort Go.Deep

/-- What a step of the program does: it hands v back, and the image has the colors L'. -/
def DoM (w : World) (pm pc W H : Nat) (L' : List Int) (v : Int) (e : Ending) (w' : World) : Prop := e = .returned (.int .i64 v) ∧ w.grownBy w' (some pc) ∧ Img w' pm pc W H L'
/-- What a step of the document does. -/
def DoR (w : World) (b W H n : Nat) (L' : List Int) (v : Int) (e : Ending) (w' : World) : Prop := ∃ b' c', e = .returned (.tuple #[.agg #[.int .i64 W, .int .i64 H, .slice (some ⟨b', 0, none⟩) n c'], .int .i64 v]) ∧ RowN .u32 w' b' 0 L' ∧ (b' = b ∨ w.heap.size ≤ b') ∧ Bl w w'
theorem DoM.rt {w : World} {pm pc W H : Nat} {L : List Int} {v : Int} (hI : Img w pm pc W H L) {f : Nat} {a : Array Value} (h : Calls Tryz.prog f a w (Rt w (.int .i64 v))) : Calls Tryz.prog f a w (DoM w pm pc W H L v) :=
  h.mono fun _ _ h => ⟨h.1, h.2.by _, hI.gr h.2⟩
theorem DoR.rt {w : World} {W H b c n : Nat} {L : List Int} {v : Int} (hR : RowN .u32 w b 0 L) {f : Nat} {a : Array Value} (h : Calls Tryz.prog f a w (Rt w (.tuple #[.agg #[.int .i64 W, .int .i64 H, .slice (some ⟨b, 0, none⟩) n c], .int .i64 v]))) : Calls Tryz.prog f a w (DoR w b W H n L v) :=
  h.mono fun _ _ h => ⟨b, c, h.1, hR.gr h.2, .inl rfl, h.2.bl⟩

/-- Set: the list and the error. -/
def stL (W H : Nat) (L : List Int) (x y q : Int) : List Int := if hasB 0 0 W H x y = true then setL L (y.toNat * W + x.toNat) q else L
def stE (W H : Nat) (x y q : Int) : Int := if hasB 0 0 W H x y = true then setE q else 4
/-- Fill: the list and the number. -/
def flL (W : Nat) (L : List Int) (p r s t q : Int) : List Int := if mayC q = true then upto (fun i => if hasB p r s t (i % W : Nat) (i / W : Nat) = true then q else L.getD i 0) L.length else L
def flN (W H : Nat) (p r s t q : Int) : Int := if mayC q = true then ((cntI (fun i => hasB p r s t (i % W : Nat) (i / W : Nat)) (W * H) : Nat) : Int) else 0
/-- Write: the list and the error. -/
def okL (bs : List Int) (N : Nat) : Bool := (List.range N).all fun j => mayC (colAt bs j)
def fitB (W H : Nat) (p r s t : Int) : Bool := !emptyB p r s t && coversB 0 0 W H p r s t
def wtL (W H : Nat) (L : List Int) (p r s t : Int) (bs : List Int) : List Int :=
  if fitB W H p r s t = true ∧ (bs.length : Int) = 4 * areaI p r s t ∧ okL bs (areaI p r s t).toNat = true then wrL W p.toNat r.toNat (s - p).toNat L bs (areaI p r s t).toNat else L
def wtE (W H : Nat) (p r s t : Int) (bs : List Int) : Int :=
  if fitB W H p r s t = false then 4 else if (bs.length : Int) < 4 * areaI p r s t then 3 else if 4 * areaI p r s t < (bs.length : Int) then 2 else if okL bs (areaI p r s t).toNat = true then 0 else 1
theorem wtL_len (W H : Nat) (L : List Int) (p r s t : Int) (bs : List Int) : (wtL W H L p r s t bs).length = L.length := by
  unfold wtL
  split
  · rw [wrL_len]
  · rfl
end Go.Proofs.YtablogiielclaaaGreat
namespace Go.Proofs.YtablogiielclaaaGreat
open Go.RowKit Go.Sort Go.Deep

/-- Nothing has turned but blocks of X, and what is new. -/
structure Kx (X : Nat → Prop) (w w' : World) : Prop where
  os : w'.os = w.os
  tape : w'.tape = w.tape
  output : w'.output = w.output
  size : w.heap.size ≤ w'.heap.size
  block : ∀ k, k < w.heap.size → ¬ X k → w'.heap[k]? = w.heap[k]?
theorem Kx.by {X : Nat → Prop} {w w' : World} {r : Nat} (g : w.grownBy w' (some r)) (h : X r) : Kx X w w' := ⟨g.os, g.tape, g.output, g.size, fun k hk hx => g.block k hk (fun e => hx (by cases e; exact h))⟩
theorem Kx.bl {X : Nat → Prop} {w w' : World} (g : Bl w w') : Kx X w w' := ⟨Below.os g, Below.tape g, Below.output g, g.size, fun k hk _ => Below.block g k hk⟩
theorem Kx.refl (X : Nat → Prop) (w : World) : Kx X w w := Kx.bl (Bl.refl w)
theorem Kx.trans {X Y : Nat → Prop} {a b c : World} (h : Kx X a b) (k : Kx Y b c) (hY : ∀ j, Y j → X j ∨ a.heap.size ≤ j) : Kx X a c :=
  ⟨k.os.trans h.os, k.tape.trans h.tape, k.output.trans h.output, Nat.le_trans h.size k.size, fun j hj hx => (k.block j (Nat.lt_of_lt_of_le hj h.size) (fun hy => by rcases hY j hy with h' | h'; exact hx h'; omega)).trans (h.block j hj hx)⟩
theorem Kx.then {X : Nat → Prop} {a b c : World} (h : Kx X a b) (k : Kx X b c) : Kx X a c := h.trans k fun _ => .inl
theorem Kx.gr {X : Nat → Prop} {a b c : World} (h : Kx X a b) (k : Bl b c) : Kx X a c := h.then (Kx.bl k)
theorem Kx.under {X : Nat → Prop} {w0 w w' : World} (h : Kx X w w') (hX : ∀ k, X k → w0.heap.size ≤ k) (g : Bl w0 w) : Bl w0 w' :=
  ⟨h.os.trans (Below.os g), h.tape.trans (Below.tape g), h.output.trans (Below.output g), Nat.le_trans g.size h.size, fun k hk => (h.block k (Nat.lt_of_lt_of_le hk g.size) (fun hx => by have := hX k hx; omega)).trans (Below.block g k hk)⟩
theorem Kx.cell {X : Nat → Prop} {w w' : World} (h : Kx X w w') {p : Addr} {v : Value} (hp : w.cell? p = some v) (hx : ¬ X p.block) : w'.cell? p = some v := by
  have hb := h.block p.block (World.block_lt_of_cell? w p hp) hx
  unfold World.cell? at *
  rw [hb]; exact hp

theorem At.kx {X : Nat → Prop} {w w' : World} {b : Nat} {cs : Array Value} {t : TypeId} (h : At w b cs t) (g : Kx X w w') (hx : ¬ X b) : At w' b cs t := by
  have := g.block b h.lt hx
  unfold At at *; rw [this]; exact h

theorem At.neP {w : World} {a b : Nat} {cs ds : Array Value} {t u : TypeId} (h : At w a cs t) (k : At w b ds u) (hne : t ≠ u) : a ≠ b := by
  rintro rfl
  unfold At at h k
  rw [h] at k
  injection k with k
  injection k with _ k
  exact hne k
theorem Kx.new {X : Nat → Prop} {a b : World} (h : Kx X a b) {p : Addr} (hp : a.heap.size ≤ p.block) (u : Value) : Kx X a (b.setCell p u) :=
  ⟨h.os, h.tape, h.output, by simpa using h.size, fun k hk hx => (Below.heap_setCell _ _ _ _ (by omega)).trans (h.block k hk hx)⟩
theorem Kx.set {X : Nat → Prop} {a b : World} (h : Kx X a b) {p : Addr} (hp : X p.block) (u : Value) : Kx X a (b.setCell p u) :=
  h.then (Kx.by (By.set (p := p) (By.refl b _) u) hp)
theorem Kx.up {X Y : Nat → Prop} {a b : World} (h : Kx X a b) (hXY : ∀ k, X k → Y k) : Kx Y a b := ⟨h.os, h.tape, h.output, h.size, fun k hk hy => h.block k hk fun hx => hy (hXY k hx)⟩
/-- A block of a kind that X has none of. -/
def Xf (w : World) (X : Nat → Prop) (t : TypeId) : Prop := ∀ k cs, X k → ¬ At w k cs t
theorem At.kt {X : Nat → Prop} {w w' : World} {b : Nat} {cs : Array Value} {t : TypeId} (h : At w b cs t) (g : Kx X w w') (hx : Xf w X t) : At w' b cs t := h.kx g fun hb => hx b cs hb h
theorem Shp.Ow.kx {α : Type} {S : Shp α} {T : TypeId} {X : Nat → Prop} {w w' : World} {B c : Nat} {A : Option Addr} {L : List α} (h : S.Ow T w B A c L) (g : Kx X w w') (hx : Xf w X T) : S.Ow T w' B A c L := by
  rcases h.2 with ⟨h1, h2⟩ | ⟨b, cap, cur, h1, h2, h3, h4⟩
  · exact ⟨h.1, .inl ⟨h1, h2⟩⟩
  · exact ⟨h.1, .inr ⟨b, cap, cur, h1, h2, (show At w' b cur T from At.kt h3 g hx), h4⟩⟩
theorem Shp.Ow.ne_at {α : Type} {S : Shp α} {T : TypeId} {w : World} {B c : Nat} {A : Option Addr} {l : List α} (h : S.Ow T w B A c l) {b : Nat} {cs : Array Value} {t : TypeId} (k : At w b cs t) (hne : T ≠ t) : A = none ∨ A.map (·.block) ≠ some b := by
  rcases h.2 with ⟨h1, _⟩ | ⟨g, cap, cur, h1, _, h3, _⟩
  · injection h1 with h1; exact .inl h1
  · injection h1 with h1
    right
    rw [h1]
    intro e
    have : g = b := by simpa using e
    subst this
    unfold At at k
    rw [h3] at k
    injection k with k
    injection k with _ k
    exact hne k

end Go.Proofs.YtablogiielclaaaGreat
namespace Go.Proofs.YtablogiielclaaaGreat
open Go.ChangeShapes Go.WideShapes Go.ChangeAt Go.RowKit Go.Joins Go.Sort Go.Deep Go.Maps

/-- How a pointer among a map's elements reads: its block. -/
def pElem : Value → Option (DataW Unit × List MemPlace)
  | .pointer (some ⟨b, 0, none⟩) => some (.lit (.int .i64 b), [])
  | .pointer none => some (.lit (.int .i64 (-1)), [])
  | _ => none
theorem pElem_inv {v : Value} {z : DataW Unit × List MemPlace} (h : pElem v = some z) : (∃ b : Nat, v = .pointer (some ⟨b, 0, none⟩) ∧ z.1 = .lit (.int .i64 b)) ∨ (v = .pointer none ∧ z.1 = .lit (.int .i64 (-1))) := by
  unfold pElem at h
  split at h
  · cases h; exact .inl ⟨_, rfl, rfl⟩
  · cases h; exact .inr ⟨rfl, rfl⟩
  · cases h
/-- Block b is a map of pointers that reads as this list. -/
def Pm (w : World) (b : Nat) (M : List Ik) : Prop := w.ownsMap Tryz.prog 3 pElem b M.length (dmap M)
theorem Pm.of {w : World} {b n : Nat} {L : List Ik} (h : w.ownsMap Tryz.prog 3 pElem b n (dmap L)) : Pm w b L := by
  have := tight h
  rw [size_dmap] at this
  exact this
theorem Pm.lt {w : World} {b : Nat} {L : List Ik} (h : Pm w b L) : b < w.heap.size := World.ownsMap.lt h
theorem Pm.by {w w' : World} {b : Nat} {L : List Ik} (h : Pm w b L) {row : Option Nat} (g : w.grownBy w' row) (hne : some b ≠ row) : Pm w' b L := World.ownsMap.kept h g hne
theorem Pm.bl {w w' : World} {b : Nat} {L : List Ik} (h : Pm w b L) (g : Bl w w') : Pm w' b L := h.by (g.byr none) (by simp)
theorem Pm.cell {w : World} {b : Nat} {L : List Ik} (h : Pm w b L) (p : Addr) (hp : p.block = b) : w.cell? p = none := by
  obtain ⟨es, clock, hb, _⟩ := h
  unfold World.cell?
  rw [hp, hb]
theorem Pm.ne {w : World} {a b : Nat} {L : List Ik} {cs : Array Value} {t : TypeId} (h : Pm w b L) (g : At w a cs t) : a ≠ b := by
  rintro rfl
  obtain ⟨es, clock, hb, _⟩ := h
  unfold At at g
  rw [hb] at g
  cases g

section
variable {ops : Array Oper} {rest : List Oper} {o : Oper} {a : Act} {w : World} {Q : Exit → Act → World → Prop}
/-- A name is looked up. -/
theorem wp_lookN (hgd : o.guard = none) (m x : Operand) (hop : o.op = Op.lookup 241 m x true) (b : Nat) (N : List Ik) (i : Int) (hm : a.eval m = .map (some b)) (hx : a.eval x = .int .i64 i) (h : Mp w b N) (hi : I64 i)
    (n : Int) (hn : kindL N i = n) (t : Bool) (ht : hasI N i = t) (hK : wpList Tryz.prog ops Q rest (a.put o.dst (.tuple #[.int .i64 n, .bool t])) w) : wpList Tryz.prog ops Q (o :: rest) a w := by
  refine wpList_lookup_own_ok_int _ hgd m x 241 hop 3 3 .i64 keyInt Tryz.underlying241 Tryz.underlying3 (zeroInt _) b _ _ hm h _ _ hx (keyOf_int_mk Tryz.underlying3 (wf64 hi)) ?_
  intro c hat _
  rw [atKey_dmap0] at hat
  injection hat with hat
  injection hat with _ hat
  subst hat
  rw [has_dmap, hn, ht]
  exact hK
end

/-- Where a buffer of the program lies: itself, its image, its colors. -/
structure Pq where
  bk : Nat
  pm : Nat
  pc : Nat
instance : Inhabited Pq := ⟨⟨0, 0, 0⟩⟩
def bkOf (Q : List Pq) (k : Nat) : Nat := (Q.getD k default).bk
theorem bkOf_at {Q : List Pq} {k : Nat} {q : Pq} (h : Q[k]? = some q) : bkOf Q k = q.bk := by unfold bkOf; rw [List.getD_eq_getElem?_getD, h]; rfl
/-- The blocks that a pool's calls may write to. -/
def PlX (pp nb bb : Nat) (Q : List Pq) (k : Nat) : Prop := k = pp ∨ k = nb ∨ k = bb ∨ ∃ q ∈ Q, k = q.bk ∨ k = q.pc
/-- A pool as it lies: its maps read as N and M. -/
structure PlS (w : World) (pp nb bb : Nat) (Q : List Pq) (S : List Bf) (N M : List Ik) : Prop where
  hd : At w pp #[.int .i64 (S.length : Int), .map (some nb), .map (some bb)] 246
  np : Mp w nb N
  bp : Pm w bb M
  ln : Q.length = S.length
  bf : ∀ (k : Nat) (s : Bf) (q : Pq), S[k]? = some s → Q[k]? = some q → At w q.bk #[.int .i64 s.id, .pointer (some ⟨q.pm, 0, none⟩), .int .i64 (s.hd : Int)] 268 ∧ Img w q.pm q.pc s.W s.H s.L
  dj : ∀ (j k : Nat) (q r : Pq), Q[j]? = some q → Q[k]? = some r → j ≠ k → q.bk ≠ r.bk ∧ q.pc ≠ r.pc
  nbb : nb ≠ bb
section
variable {w w' : World} {pp nb bb : Nat} {Q : List Pq} {S : List Bf} {N M : List Ik}
theorem PlS.bl (h : PlS w pp nb bb Q S N M) (g : Bl w w') : PlS w' pp nb bb Q S N M :=
  { h with hd := h.hd.bl g, np := h.np.bl g, bp := h.bp.bl g, bf := fun k s q h1 h2 => ⟨(h.bf k s q h1 h2).1.bl g, (h.bf k s q h1 h2).2.bl g⟩ }
theorem PlS.xlt (h : PlS w pp nb bb Q S N M) {k : Nat} (hx : PlX pp nb bb Q k) : k < w.heap.size := by
  rcases hx with rfl | rfl | rfl | ⟨q, hq, hk⟩
  · exact h.hd.lt
  · exact h.np.lt
  · exact h.bp.lt
  · obtain ⟨j, hj⟩ := List.getElem?_of_mem hq
    obtain ⟨s, hs⟩ := list_at (l := S) (k := j) (by rw [← h.ln]; exact (List.getElem?_eq_some_iff.1 hj).1)
    rcases hk with rfl | rfl
    · exact (h.bf j s q hs hj).1.lt
    · exact (h.bf j s q hs hj).2.cs.lt
theorem PlS.q (h : PlS w pp nb bb Q S N M) {k : Nat} {s : Bf} (hk : S[k]? = some s) : ∃ q, Q[k]? = some q := list_at (by rw [h.ln]; exact (List.getElem?_eq_some_iff.1 hk).1)
/-- Nothing that a pool's cells say has turned. -/
theorem PlS.same (h : PlS w pp nb bb Q S N M) {k : Nat} {s t : Bf} (hk : S[k]? = some s) (e1 : t.id = s.id) (e2 : t.hd = s.hd) (e3 : t.W = s.W) (e4 : t.H = s.H) (e5 : t.L = s.L) : PlS w pp nb bb Q (S.set k t) N M := by
  have hl := (List.getElem?_eq_some_iff.1 hk).1
  refine { h with hd := by rw [List.length_set]; exact h.hd, ln := by rw [List.length_set]; exact h.ln, bf := fun j x q h1 h2 => ?_ }
  rcases (getElem?_put hl).1 h1 with ⟨rfl, rfl⟩ | ⟨hj, h1⟩
  · rw [e1, e2, e3, e4, e5]; exact h.bf j s q hk h2
  · exact h.bf j x q h1 h2
/-- The names have turned. -/
theorem PlS.names (h : PlS w pp nb bb Q S N M) (g : w.grownBy w' (some nb)) {N' : List Ik} (hN : Mp w' nb N') : PlS w' pp nb bb Q S N' M := by
  refine { h with hd := h.hd.grown g (fun e => h.np.ne h.hd (Option.some.inj e)), np := hN, bp := h.bp.by g (fun e => h.nbb (Option.some.inj e).symm), bf := fun k s q h1 h2 => ?_ }
  have hb := h.bf k s q h1 h2
  exact ⟨hb.1.grown g (fun e => h.np.ne hb.1 (Option.some.inj e)), hb.2.kept g (fun e => h.np.ne hb.2.hd (Option.some.inj e)) (fun e => h.np.ne hb.2.cs (Option.some.inj e))⟩
/-- Those that are there have turned. -/
theorem PlS.those (h : PlS w pp nb bb Q S N M) (g : w.grownBy w' (some bb)) {M' : List Ik} (hM : Pm w' bb M') : PlS w' pp nb bb Q S N M' := by
  refine { h with hd := h.hd.grown g (fun e => h.bp.ne h.hd (Option.some.inj e)), np := h.np.by g (fun e => h.nbb (Option.some.inj e)), bp := hM, bf := fun k s q h1 h2 => ?_ }
  have hb := h.bf k s q h1 h2
  exact ⟨hb.1.grown g (fun e => h.bp.ne hb.1 (Option.some.inj e)), hb.2.kept g (fun e => h.bp.ne hb.2.hd (Option.some.inj e)) (fun e => h.bp.ne hb.2.cs (Option.some.inj e))⟩
/-- A buffer is held otherwise. -/
theorem PlS.held (h : PlS w pp nb bb Q S N M) {k : Nat} {s : Bf} {q : Pq} (hk : S[k]? = some s) (hq : Q[k]? = some q) (n : Nat) : PlS (w.setCell ⟨q.bk, 2, none⟩ (.int .i64 (n : Int))) pp nb bb Q (S.set k { s with hd := n }) N M := by
  have hl := (List.getElem?_eq_some_iff.1 hk).1
  have hb := h.bf k s q hk hq
  have g : w.grownBy (w.setCell ⟨q.bk, 2, none⟩ (.int .i64 (n : Int))) (some q.bk) := By.set (p := ⟨q.bk, 2, none⟩) (By.refl w _) _
  refine { h with hd := by rw [List.length_set]; exact h.hd.grown g (fun e => (h.hd.neP hb.1 (by decide)) (Option.some.inj e)), np := h.np.by g (fun e => h.np.ne hb.1 (Option.some.inj e).symm), bp := h.bp.by g (fun e => h.bp.ne hb.1 (Option.some.inj e).symm),
                  ln := by rw [List.length_set]; exact h.ln, bf := fun j x r h1 h2 => ?_ }
  rcases (getElem?_put hl).1 h1 with ⟨rfl, rfl⟩ | ⟨hj, h1⟩
  · rw [hq] at h2; cases h2
    exact ⟨by simpa using hb.1.put 2 (.int .i64 (n : Int)), hb.2.kept g (fun e => (hb.2.hd.neP hb.1 (by decide)) (Option.some.inj e)) (fun e => (hb.2.cs.neP hb.1 (by decide)) (Option.some.inj e))⟩
  · have hc := h.bf j x r h1 h2
    exact ⟨hc.1.grown g (fun e => (h.dj j k r q h2 hq hj).1 (Option.some.inj e)), hc.2.kept g (fun e => (hc.2.hd.neP hb.1 (by decide)) (Option.some.inj e)) (fun e => (hc.2.cs.neP hb.1 (by decide)) (Option.some.inj e))⟩
/-- A buffer's colors are otherwise. -/
theorem PlS.drawn (h : PlS w pp nb bb Q S N M) {k : Nat} {s : Bf} {q : Pq} (hk : S[k]? = some s) (hq : Q[k]? = some q) {L' : List Int} (g : w.grownBy w' (some q.pc)) (hI : Img w' q.pm q.pc s.W s.H L') : PlS w' pp nb bb Q (S.set k { s with L := L' }) N M := by
  have hl := (List.getElem?_eq_some_iff.1 hk).1
  have hb := h.bf k s q hk hq
  refine { h with hd := by rw [List.length_set]; exact h.hd.grown g (fun e => (h.hd.neP hb.2.cs (by decide)) (Option.some.inj e)), np := h.np.by g (fun e => h.np.ne hb.2.cs (Option.some.inj e).symm), bp := h.bp.by g (fun e => h.bp.ne hb.2.cs (Option.some.inj e).symm),
                  ln := by rw [List.length_set]; exact h.ln, bf := fun j x r h1 h2 => ?_ }
  rcases (getElem?_put hl).1 h1 with ⟨rfl, rfl⟩ | ⟨hj, h1⟩
  · rw [hq] at h2; cases h2
    exact ⟨hb.1.grown g (fun e => (hb.1.neP hb.2.cs (by decide)) (Option.some.inj e)), hI⟩
  · have hc := h.bf j x r h1 h2
    exact ⟨hc.1.grown g (fun e => (hc.1.neP hb.2.cs (by decide)) (Option.some.inj e)), hc.2.kept g (fun e => (hc.2.hd.neP hb.2.cs (by decide)) (Option.some.inj e)) (fun e => (h.dj j k r q h2 hq hj).2 (Option.some.inj e))⟩
/-- A buffer was made: its number, its name, itself. -/
theorem PlS.push (h : PlS w pp nb bb Q S N M) (g : Kx (fun k => k = pp ∨ k = nb ∨ k = bb) w w') {s : Bf} {q : Pq} {N' M' : List Ik} (hp : At w' pp #[.int .i64 ((S.length + 1 : Nat) : Int), .map (some nb), .map (some bb)] 246) (hN : Mp w' nb N') (hM : Pm w' bb M')
    (hb : At w' q.bk #[.int .i64 s.id, .pointer (some ⟨q.pm, 0, none⟩), .int .i64 (s.hd : Int)] 268) (hI : Img w' q.pm q.pc s.W s.H s.L) (h1 : w.heap.size ≤ q.bk) (h2 : w.heap.size ≤ q.pc) : PlS w' pp nb bb (Q ++ [q]) (S ++ [s]) N' M' := by
  refine ⟨by simpa using hp, hN, hM, by simp [h.ln], fun j x r e1 e2 => ?_, fun i j x r e1 e2 hij => ?_, h.nbb⟩
  · rcases getElem?_push.1 e1 with e1 | ⟨rfl, rfl⟩
    · have hj := (List.getElem?_eq_some_iff.1 e1).1
      rcases getElem?_push.1 e2 with e2 | ⟨rfl, rfl⟩
      · have hc := h.bf j x r e1 e2
        exact ⟨hc.1.kx g (by rintro (e | e | e); exact (hc.1.neP h.hd (by decide)) e; exact (h.np.ne hc.1) e; exact (h.bp.ne hc.1) e),
          { hc.2 with hd := hc.2.hd.kx g (by rintro (e | e | e); exact (hc.2.hd.neP h.hd (by decide)) e; exact (h.np.ne hc.2.hd) e; exact (h.bp.ne hc.2.hd) e), cs := hc.2.cs.kx g (by rintro (e | e | e); exact (hc.2.cs.neP h.hd (by decide)) e; exact (h.np.ne hc.2.cs) e; exact (h.bp.ne hc.2.cs) e) }⟩
      · have := h.ln; omega
    · rcases getElem?_push.1 e2 with e2 | ⟨_, rfl⟩
      · have := (List.getElem?_eq_some_iff.1 e2).1; have := h.ln; omega
      · exact ⟨hb, hI⟩
  · have old : ∀ (j : Nat) (r : Pq), Q[j]? = some r → r.bk < w.heap.size ∧ r.pc < w.heap.size := fun j r hr =>
      ⟨h.xlt (.inr (.inr (.inr ⟨r, List.mem_of_getElem? hr, .inl rfl⟩))), h.xlt (.inr (.inr (.inr ⟨r, List.mem_of_getElem? hr, .inr rfl⟩)))⟩
    rcases getElem?_push.1 e1 with e3 | ⟨e3, e4⟩
    · rcases getElem?_push.1 e2 with e5 | ⟨e5, e6⟩
      · exact h.dj i j x r e3 e5 hij
      · have := old i x e3; rw [e6]; omega
    · rcases getElem?_push.1 e2 with e5 | ⟨e5, e6⟩
      · have := old j r e5; rw [e4]; omega
      · omega
end
/-- What buffers are good for: at most n of them, none held more often. -/
structure OkS (n : Nat) (S : List Bf) : Prop where
  few : S.length ≤ n
  hds : ∀ s ∈ S, s.hd ≤ n
  ids : ∀ s ∈ S, I64 s.id
  w1 : ∀ s ∈ S, 1 ≤ s.W
  w2 : ∀ s ∈ S, s.W ≤ 256
  h1 : ∀ s ∈ S, 1 ≤ s.H
  h2 : ∀ s ∈ S, s.H ≤ 256
  len : ∀ s ∈ S, s.L.length = s.W * s.H
theorem OkS.nil : OkS 0 [] := ⟨by simp, by simp, by simp, by simp, by simp, by simp, by simp, by simp⟩
theorem OkS.up {n m : Nat} {S : List Bf} (h : OkS n S) (hn : n ≤ m) : OkS m S := { h with few := Nat.le_trans h.few hn, hds := fun s hs => Nat.le_trans (h.hds s hs) hn }
theorem mem_put {S : List Bf} {k : Nat} {t x : Bf} (h : x ∈ S.set k t) : x ∈ S ∨ x = t := List.mem_or_eq_of_mem_set h
theorem OkS.put {n : Nat} {S : List Bf} (h : OkS n S) {k : Nat} {s t : Bf} (hk : S[k]? = some s) (e1 : t.hd ≤ s.hd + 1) (e2 : t.id = s.id) (e3 : t.W = s.W) (e4 : t.H = s.H) (e5 : t.L.length = s.L.length) : OkS (n + 1) (S.set k t) := by
  have hs := List.mem_of_getElem? hk
  refine ⟨by rw [List.length_set]; have := h.few; omega, fun x hx => ?_, fun x hx => ?_, fun x hx => ?_, fun x hx => ?_, fun x hx => ?_, fun x hx => ?_, fun x hx => ?_⟩
  all_goals rcases mem_put hx with hx | rfl
  · have := h.hds x hx; omega
  · have := h.hds s hs; omega
  · exact h.ids x hx
  · rw [e2]; exact h.ids s hs
  · exact h.w1 x hx
  · rw [e3]; exact h.w1 s hs
  · exact h.w2 x hx
  · rw [e3]; exact h.w2 s hs
  · exact h.h1 x hx
  · rw [e4]; exact h.h1 s hs
  · exact h.h2 x hx
  · rw [e4]; exact h.h2 s hs
  · exact h.len x hx
  · rw [e5, e3, e4]; exact h.len s hs
theorem OkS.push {n : Nat} {S : List Bf} (h : OkS n S) {s : Bf} (h0 : s.hd = 0) (h1 : I64 s.id) (h2 : 1 ≤ s.W ∧ s.W ≤ 256) (h3 : 1 ≤ s.H ∧ s.H ≤ 256) (h4 : s.L.length = s.W * s.H) : OkS (n + 1) (S ++ [s]) := by
  refine ⟨by simp; exact h.few, fun x hx => ?_, fun x hx => ?_, fun x hx => ?_, fun x hx => ?_, fun x hx => ?_, fun x hx => ?_, fun x hx => ?_⟩
  all_goals rcases List.mem_append.1 hx with hx | hx
  all_goals try (rw [List.mem_singleton] at hx; subst hx)
  · have := h.hds x hx; omega
  · omega
  · exact h.ids x hx
  · exact h1
  · exact h.w1 x hx
  · exact h2.1
  · exact h.w2 x hx
  · exact h2.2
  · exact h.h1 x hx
  · exact h3.1
  · exact h.h2 x hx
  · exact h3.2
  · exact h.len x hx
  · exact h4

/-- The buffer of this number, if it is there. -/
def atS (S : List Bf) (n : Int) : Option Nat := if 0 ≤ n ∧ (S.getD n.toNat default).th = true then some n.toNat else none
theorem atS_some {S : List Bf} {n : Int} {k : Nat} (h : atS S n = some k) : ∃ s, n = (k : Int) ∧ S[k]? = some s ∧ s.th = true ∧ S.getD k default = s := by
  unfold atS at h
  split at h
  · rename_i hc
    cases h
    cases hg : S[n.toNat]? with
    | none => rw [List.getD_eq_getElem?_getD, hg] at hc; exact absurd hc.2 (by decide)
    | some s =>
      have e : S.getD n.toNat default = s := by rw [List.getD_eq_getElem?_getD, hg]; rfl
      exact ⟨s, by omega, rfl, by rw [← e]; exact hc.2, e⟩
  · cases h
theorem atS_none {S : List Bf} {n : Int} (h : atS S n = none) : n < 0 ∨ (S.length : Int) ≤ n ∨ ∃ (k : Nat) (s : Bf), n = (k : Int) ∧ S[k]? = some s ∧ s.th = false := by
  unfold atS at h
  split at h
  · cases h
  · rename_i hc
    by_cases h0 : n < 0
    · exact .inl h0
    · by_cases h1 : (S.length : Int) ≤ n
      · exact .inr (.inl h1)
      · obtain ⟨s, hs⟩ := list_at (l := S) (k := n.toNat) (by omega)
        refine .inr (.inr ⟨n.toNat, s, by omega, hs, ?_⟩)
        have e : S.getD n.toNat default = s := by rw [List.getD_eq_getElem?_getD, hs]; rfl
        rw [e] at hc
        cases ht : s.th
        · rfl
        · exact absurd ⟨by omega, ht⟩ hc
theorem getD_at {S : List Bf} {k : Nat} {s : Bf} (h : S[k]? = some s) : S.getD k default = s := by rw [List.getD_eq_getElem?_getD, h]; rfl

/-! ### What steps make of buffers, and tell. -/
def hoS (S : List Bf) (n : Int) : List Bf := match atS S n with | some k => S.set k { S.getD k default with hd := (S.getD k default).hd + 1 } | none => S
def hoE (S : List Bf) (n : Int) : Int := match atS S n with | some _ => 0 | none => 5
def leS (S : List Bf) (n : Int) : List Bf := match atS S n with | some k => if (S.getD k default).hd = 0 then S else S.set k { S.getD k default with hd := (S.getD k default).hd - 1 } | none => S
def leI (S : List Bf) (n : Int) : Int := match atS S n with | some k => if (S.getD k default).hd = 0 then 0 else (S.getD k default).id | none => 0
def leB (S : List Bf) (n : Int) : Bool := match atS S n with | some k => if (S.getD k default).hd = 0 then false else (S.getD k default).nm && decide ((S.getD k default).hd = 1) | none => false
def dsS (S : List Bf) (i : Int) : List Bf := match plF i S with | some k => S.set k { S.getD k default with nm := false } | none => S
def fiE (S : List Bf) (i : Int) : Int := match plF i S with | some _ => 0 | none => 5
def wrS12 (S : List Bf) (i p r s t : Int) (bs : List Int) : List Bf := match plF i S with
  | some k => if 0 < (S.getD k default).hd then S else S.set k { S.getD k default with L := wtL (S.getD k default).W (S.getD k default).H (S.getD k default).L p r s t bs }
  | none => S
def wrE12 (S : List Bf) (i p r s t : Int) (bs : List Int) : Int := match plF i S with
  | some k => if 0 < (S.getD k default).hd then 8 else wtE (S.getD k default).W (S.getD k default).H p r s t bs
  | none => 5
def badW (w h : Int) : Prop := w < 1 ∨ 256 < w ∨ h < 1 ∨ 256 < h
instance (w h : Int) : Decidable (badW w h) := by unfold badW; exact inferInstance
def newB (i w h : Int) : Bf := ⟨i, true, 0, w.toNat, h.toNat, List.replicate (w.toNat * h.toNat) 0⟩
def mkS (S : List Bf) (i w h : Int) : List Bf := if (plF i S).isSome = true then S else if badW w h then S else S ++ [newB i w h]
def mkN (S : List Bf) (i w h : Int) : Int := if (plF i S).isSome = true then -1 else if badW w h then -1 else S.length
def mkE (S : List Bf) (i w h : Int) : Int := if (plF i S).isSome = true then 6 else if badW w h then 1 else 0
theorem OkS.ho {n : Nat} {S : List Bf} (h : OkS n S) (m : Int) : OkS (n + 1) (hoS S m) := by
  unfold hoS
  split
  · rename_i k hk
    obtain ⟨s, _, h2, _, h4⟩ := atS_some hk
    rw [h4]
    exact h.put h2 (Nat.le_refl _) rfl rfl rfl rfl
  · exact h.up (Nat.le_succ _)
theorem OkS.le {n : Nat} {S : List Bf} (h : OkS n S) (m : Int) : OkS (n + 1) (leS S m) := by
  unfold leS
  split
  · rename_i k hk
    obtain ⟨s, _, h2, _, h4⟩ := atS_some hk
    rw [h4]
    split
    · exact h.up (Nat.le_succ _)
    · exact h.put h2 (by simp; omega) rfl rfl rfl rfl
  · exact h.up (Nat.le_succ _)
theorem OkS.ds {n : Nat} {S : List Bf} (h : OkS n S) (i : Int) : OkS (n + 1) (dsS S i) := by
  unfold dsS
  split
  · rename_i k hk
    obtain ⟨s, h2, _⟩ := plF_some hk
    rw [getD_at h2]
    exact h.put h2 (Nat.le_succ _) rfl rfl rfl rfl
  · exact h.up (Nat.le_succ _)
theorem OkS.wr {n : Nat} {S : List Bf} (h : OkS n S) (i p r s t : Int) (bs : List Int) : OkS (n + 1) (wrS12 S i p r s t bs) := by
  unfold wrS12
  split
  · rename_i k hk
    obtain ⟨x, h2, _⟩ := plF_some hk
    rw [getD_at h2]
    split
    · exact h.up (Nat.le_succ _)
    · exact h.put h2 (Nat.le_succ _) rfl rfl rfl (wtL_len _ _ _ _ _ _ _ _)
  · exact h.up (Nat.le_succ _)
/-- A pool. -/
structure PlR (w : World) (pp nb bb : Nat) (Q : List Pq) (S : List Bf) (n : Nat) : Prop where
  m : ∃ N M, PlS w pp nb bb Q S N M ∧ NmQ N S ∧ ThQ M S (bkOf Q)
  ok : OkS n S
theorem PlR.bl {w w' : World} {pp nb bb n : Nat} {Q : List Pq} {S : List Bf} (h : PlR w pp nb bb Q S n) (g : Bl w w') : PlR w' pp nb bb Q S n := by
  obtain ⟨⟨N, M, h1, h2, h3⟩, h4⟩ := h
  exact ⟨⟨N, M, h1.bl g, h2, h3⟩, h4⟩
theorem PlR.up {w : World} {pp nb bb n m : Nat} {Q : List Pq} {S : List Bf} (h : PlR w pp nb bb Q S n) (hn : n ≤ m) : PlR w pp nb bb Q S m := ⟨h.m, h.ok.up hn⟩
theorem PlR.xlt {w : World} {pp nb bb n : Nat} {Q : List Pq} {S : List Bf} (h : PlR w pp nb bb Q S n) {k : Nat} (hx : PlX pp nb bb Q k) : k < w.heap.size := by
  obtain ⟨⟨N, M, h1, h2, h3⟩, h4⟩ := h
  exact h1.xlt hx

end Go.Proofs.YtablogiielclaaaGreat
namespace Go.Proofs.YtablogiielclaaaGreat
open Go.ChangeShapes Go.WideShapes Go.ChangeAt Go.RowKit Go.Joins Go.Sort Go.Deep Go.Maps

set_option maxRecDepth 100000 in
theorem plNew1 (w : World) : Calls Tryz.prog 108 #[] w fun e w' => ∃ pp nb bb, e = .returned (.pointer (some ⟨pp, 0, none⟩)) ∧ PlR w' pp nb bb [] [] 0 ∧ Bl w w' ∧ ∀ k, PlX pp nb bb [] k → w.heap.size ≤ k := by
  have hmm := @run_makeMap Tryz.prog
  go_enter Tryz.func108, Tryz.ntmps108
  go_wp2
  go_ret
  have g1 : Bl w (w.alloc (.map #[] 0)) := (Bl.refl w).alloc _
  have hm : Mp (w.alloc (.map #[] 0)) w.heap.size [] := World.ownsMap_made w _ _ _
  have hp : Pm ((w.alloc (.map #[] 0)).alloc (.map #[] 0)) (w.alloc (.map #[] 0)).heap.size [] := World.ownsMap_made (w.alloc (.map #[] 0)) _ _ _
  have e1 : (w.alloc (.map #[] 0)).heap.size = w.heap.size + 1 := by simp
  rw [e1] at hp
  refine ⟨w.heap.size + 2, w.heap.size, w.heap.size + 1, by simp, ⟨⟨[], [], ⟨At.newAt (by simp) _ _, (hm.bl ((Bl.refl _).alloc _)).bl ((Bl.refl _).alloc _), hp.bl ((Bl.refl _).alloc _), rfl, by simp, by simp, by omega⟩, NmQ.nil, ThQ.nil _⟩, OkS.nil⟩, (g1.alloc _).alloc _, ?_⟩
  rintro k (rfl | rfl | rfl | ⟨q, hq, _⟩)
  · omega
  · omega
  · omega
  · cases hq

section
variable {w : World} {pp nb bb n : Nat} {Q : List Pq} {S : List Bf}
theorem ThQ.no {M : List Ik} {bk : Nat → Nat} (h : ThQ M S bk) {m : Int} (ha : atS S m = none) : hasI M m = false := by
  rcases atS_none ha with h1 | h1 | ⟨k, s, rfl, h2, h3⟩
  · exact h.out (.inl h1)
  · exact h.out (.inr h1)
  · rw [h.has h2]; exact h3
def hdN (S : List Bf) (m : Int) : Int := match atS S m with | some k => ((S.getD k default).hd : Int) | none => 0
/-- What a step leaves. -/
def PlPQ (w : World) (pp nb bb : Nat) (Q : List Pq) (S' : List Bf) (n : Nat) (v : Value) (e : Ending) (w' : World) : Prop := e = .returned v ∧ PlR w' pp nb bb Q S' n ∧ Kx (PlX pp nb bb Q) w w'
theorem PlX.q {pp nb bb : Nat} {Q : List Pq} {k : Nat} {q : Pq} (h : Q[k]? = some q) : PlX pp nb bb Q q.bk ∧ PlX pp nb bb Q q.pc := ⟨.inr (.inr (.inr ⟨q, List.mem_of_getElem? h, .inl rfl⟩)), .inr (.inr (.inr ⟨q, List.mem_of_getElem? h, .inr rfl⟩))⟩

end

end Go.Proofs.YtablogiielclaaaGreat
namespace Go.Proofs.YtablogiielclaaaGreat
open Go.ChangeShapes Go.WideShapes Go.ChangeAt Go.RowKit Go.Joins Go.Sort Go.Deep Go.Maps

section
variable {w : World} {pp nb bb n : Nat} {Q : List Pq} {S : List Bf}
end

end Go.Proofs.YtablogiielclaaaGreat
namespace Go.Proofs.YtablogiielclaaaGreat
open Go.ChangeShapes Go.WideShapes Go.ChangeAt Go.RowKit Go.Joins Go.Sort Go.Deep Go.Maps

section
variable {w : World} {pp nb bb n : Nat} {Q : List Pq} {S : List Bf}
end

end Go.Proofs.YtablogiielclaaaGreat
namespace Go.Proofs.YtablogiielclaaaGreat
end Go.Proofs.YtablogiielclaaaGreat
namespace Go.Proofs.YtablogiielclaaaGreat
open Go.ChangeShapes Go.WideShapes Go.ChangeAt Go.RowKit Go.Joins Go.Sort Go.Deep Go.Maps

def shW : Shp Int := ⟨1, fun x => [.int .i64 x], fun _ => rfl, fun x u h => by simp at h; subst h; rfl, by omega⟩
theorem shW_cs (l : List Int) : shW.cs l = l.map (Value.int .i64) := by
  induction l with
  | nil => rfl
  | cons x l ih => rw [Shp.cs_cons, ih]; rfl
theorem infoIntW : (Tryz.prog.info? 3).map (fun i => (i.zero, i.size, i.bytes)) = some (some (.int .i64 0), shW.n, 8) := by kernel_rfl
abbrev OwIntW := shW.Ow 3
def sortIW (zs : List Int) : List Int := zs.mergeSort fun x y => decide (x ≤ y)
theorem sortIW_len (zs : List Int) : (sortIW zs).length = zs.length := List.length_mergeSort _
theorem isort1 (A : Option Addr) (c : Nat) (E : List Int) (w : World) (B : Nat) (h : OwIntW w B A c E) (hl : E.length ≤ 100000000) (hB : B ≤ w.heap.size) :
    Calls Tryz.prog 189 #[.slice A E.length c] w fun e w' => e = .returned (.tuple #[]) ∧ OwIntW w' B A c (sortIW E) ∧ Below B w w' := by
  by_cases h0 : E.length = 0
  · have : E = [] := List.eq_nil_of_length_eq_zero h0
    subst this
    refine (sh_Sort_none A c w).mono ?_
    rintro e w' ⟨rfl, rfl⟩
    exact ⟨rfl, by rw [show sortIW [] = [] from by simp [sortIW]]; exact h, Below.refl _ _⟩
  · have h' : w.ownsRow B 3 1 (.slice A E.length c) E.length (E.map (Value.int .i64)) := by have := h; unfold OwIntW Shp.Ow at this; rw [shW_cs] at this; exact this
    obtain ⟨g, cap, h1, h2, h3, h4, h5, h6, h7⟩ := Lib.holds_of_ownsRow (enc := Value.int .i64) (zs := E) h' (by intro h; injection h with h h'; omega)
    injection h1 with h1 h1' h1''
    subst h1 h1''
    refine (sh_Sort g 0 c E w h7 h3 (by omega)).mono ?_
    rintro e w' ⟨rfl, n, os, rfl⟩
    have q := Lib.ownsRow_putRow (enc := Value.int .i64) (q := n) (k := E.length) (ys := sortIW E) h' (sortIW_len E) (Nat.le_refl _)
    have q1 : OwIntW (putRow (Value.int .i64) (Sort.ahead w n) g 0 (sortIW E).toArray) B (some ⟨g, 0, none⟩) c (sortIW E) := by
      unfold OwIntW Shp.Ow
      rw [sortIW_len, shW_cs]
      rw [List.take_of_length_le (by rw [sortIW_len]; exact Nat.le_refl _)] at q
      exact q
    exact ⟨rfl, q1.bl ((Bl.refl _).grow os), Below.trans (Lib.below_putRow (Below.refl _ _) h2) (Below.mono ((Bl.refl _).grow os) (by simp [putRow, mapBlock, Sort.ahead]; omega))⟩

set_option maxRecDepth 100000 in
theorem idOf1 {w : World} {a b : Nat} {m : Int} {L : List Ik} (h : Tb w a b m L) (k : Int) : Calls Tryz.prog 127 #[.pointer (some ⟨a, 0, none⟩), .int .i64 k] w fun e w' =>
    ∃ A c, e = .returned (.slice A (ofL L k).length c) ∧ OwIntW w' w.heap.size A c (ofL L k) ∧ Bl w w' := by
  have c1 := h.hd.cell 1
  have hown := h.mp
  unfold Mp at hown
  have hbl := h.mp.lt
  have hal := h.hd.lt
  have hlen := h.ok.len
  have hasc := h.ok.asc
  have hsz := size_dmap L
  have hol := ofL_len L k
  obtain ⟨r, hr⟩ : ∃ r, r = w.heap.size := ⟨_, rfl⟩
  go_enter Tryz.func127, Tryz.ntmps127
  go_wp2_with (at_range; refine wpList_range_own _ rfl _ 241 rfl 3 3 keyInt Tryz.underlying241 _ b _ _ rfl hown ?_; intro w0 hrg0 hg0 hs0)
  rw [← hr] at hrg0
  replace hr := Lib.hid hr
  replace hs0 := Lib.hid hs0
  go_frame
  go_loopw [5] (fun v wr => ∃ (left : Lit → Bool) (cnt : Nat) (A : Option Addr) (c : Nat) (ks : List Int), wr.ranges Tryz.prog 3 (plainElem Tryz.prog 3) b r L.length (dmap L) left cnt ∧ v = .slice A ks.length c ∧ OwIntW wr (r + 1) A c ks ∧ Col L k left ks ∧ ks.length + cnt ≤ L.length ∧ Bl w wr ∧ r + 1 ≤ wr.heap.size)
    (fun _ wr => wr.rangeLeft b r)
  case atStart => exact ⟨_, _, none, 0, [], by rw [hr.out]; rw [hr.out] at hrg0; exact hrg0, rfl, Shp.Ow.nil _ _, Col.start L k, by simp [hsz], By.none hg0, by rw [hs0.out, hr.out]; exact Nat.le_refl _⟩
  case round =>
    obtain ⟨left, cnt, A, c, ks, hrg, rfl, own, hC, hcs, G, hrs⟩ := hrel
    go_wp2_with (at_next; refine wpList_next_ranges_ii _ rfl _ rfl 3 3 .i64 .i64 keyInt Tryz.underlying3 Tryz.underlying3 b r _ _ _ _ (by have := hr.out; subst this; rfl) hrg ?_ ?_)
    · intro hc0 hl0
      have hsorted : sortIW ks = ofL L k := hC.sorted hl0 hasc
      have hln : ks.length = (ofL L k).length := by rw [← hsorted, sortIW_len]
      have cs := isort1 A c ks wr (r + 1) own (by omega) hrs
      rw [hsorted] at cs
      replace hsorted := Lib.hid hsorted
      replace hln := Lib.hid hln
      have hro := Lib.hid hr.out
      clear hlen hcs
      go_wp2_with (go_at_call 189; refine cs.mono ?_; rintro e w3 ⟨rfl, own3, g3⟩)
      go_ret
      rw [hln.out]
      exact ⟨A, c, rfl, own3.low (by rw [hro.out]; omega), RowKit.Below.trans G (RowKit.Below.mono g3 (by rw [hro.out]; omega))⟩
    · intro x c' w2 cnt2 hwx hwc hlx hat hrg2 hlt hg2 hs2 hen
      have hrl := hr.out
      have own2 := own.by hg2 (by rcases own.lies with h | ⟨g, rfl, h1, _⟩; exact .inl h; exact .inr (by simp; omega))
      have G2 : Bl w w2 := G.grown hg2 (fun j hj => by cases hj; rw [hrl]; exact Nat.le_refl _)
      have hrs2 : r + 1 ≤ w2.heap.size := Nat.le_trans hrs hg2.size
      clear hs2
      rw [hrl] at hen
      replace hrl := Lib.hid hrl
      by_cases hk : c' = k
      · subst hk
        replace hlen := Lib.hid hlen
        replace hcs := Lib.hid hcs
        go_wp2_with (at_builtin; refine Shp.wp_app (S := shW) Tryz.underlying35 infoIntW rfl (by decide) rfl (.tmp 21) (.tmp 23) rfl A c ks rfl (r + 1) (own2.bl ((Bl.refl _).alloc _)) (some ⟨w2.heap.size, 0, none⟩) 1 [x] rfl (by simp) (Shp.Rd.new1 (At.new _ _ _) rfl) (by have := hlen.out; have := hcs.out; simp; omega) (by simp; omega) ?_; intro A3 c3 w3 own3 ap3 lies3)
        have hne3 : ∀ j, A.map (·.block) = some j → r + 1 ≤ j := by
          intro j hj
          rcases own2.lies with h | ⟨g, rfl, h1, _⟩
          · subst h; cases hj
          · cases hj; exact h1
        have hbw := hbl
        go_roundw
        case rel =>
          refine ⟨_, cnt2, A3, c3, ks ++ [x], (hrg2.alloc _).kept ap3 (fun e => ?_) (fun e => ?_), by simp, own3, hC.step hlx hat hasc, by have := hcs.out; simp; omega, (G2.alloc _).grown ap3 (fun j hj => ?_), ?_⟩
          · have := hne3 b e.symm; rw [hrl.out] at this; omega
          · have := hne3 r e.symm; omega
          · have := hne3 j hj; rw [hrl.out] at this; omega
          · have := ap3.size; simp at this; omega
        case measure => rw [World.ranges.left_eq ((hrg2.alloc _).kept ap3 (fun e => by have := hne3 b e.symm; rw [hrl.out] at this; omega) (fun e => by have := hne3 r e.symm; omega)), hrg.left_eq]; exact hlt
      · have hke : (c' == k) = false := by simpa using hk
        have hC2 := hC.skip hat hasc hk
        replace hk := Lib.hid hk
        go_wp2
        go_roundw
        case rel => exact ⟨_, cnt2, A, c, ks, hrg2, rfl, own2, hC2, by omega, G2, hrs2⟩
        case measure => rw [hrg2.left_eq, hrg.left_eq]; exact hlt

end Go.Proofs.YtablogiielclaaaGreat
namespace Go.Proofs.YtablogiielclaaaGreat
open Go.ChangeShapes Go.WideShapes Go.ChangeAt Go.RowKit Go.Joins Go.Sort Go.Deep Go.Maps

section
variable {w : World} {pp nb bb n : Nat} {Q : List Pq} {S : List Bf}
/-- What Make leaves. -/
def PmQ (w : World) (pp nb bb : Nat) (Q : List Pq) (S' : List Bf) (n : Nat) (v : Value) (e : Ending) (w' : World) : Prop := ∃ Q', e = .returned v ∧ PlR w' pp nb bb Q' S' n ∧ Kx (PlX pp nb bb Q) w w' ∧ ∀ j, PlX pp nb bb Q' j → PlX pp nb bb Q j ∨ w.heap.size ≤ j
theorem PmQ.old {S' : List Bf} {m : Nat} {v : Value} {w' : World} (h : PlR w' pp nb bb Q S' m) (g : Bl w w') : PmQ w pp nb bb Q S' m v (.returned v) w' := ⟨Q, rfl, h, Kx.bl g, fun _ => .inl⟩
set_option maxRecDepth 100000 in
theorem plMakeN (h : PlR w pp nb bb Q S n) (hn : n ≤ 1000) (i : Int) (W H : Nat) (hi : I64 i) (hf : plF i S = none) (w1 : 1 ≤ W) (w2 : W ≤ 256) (h1 : 1 ≤ H) (h2 : H ≤ 256) : Calls Tryz.prog 224 #[.pointer (some ⟨pp, 0, none⟩), .int .i64 i, .int .i64 (W : Int), .int .i64 (H : Int)] w (PmQ w pp nb bb Q (S ++ [newB i W H]) (n + 1) (.tuple #[.int .i64 (S.length : Int), .int .i64 0])) := by
  have hok := h.ok.push (s := newB i W H) rfl hi ⟨by simp [newB]; omega, by simp [newB]; omega⟩ ⟨by simp [newB]; omega, by simp [newB]; omega⟩ (by simp [newB])
  have ok := h.ok
  obtain ⟨⟨N, M, hs, hN, hM⟩, _⟩ := h
  have hh := hN.has i
  rw [hf] at hh
  have cN := new1 W H w w1 w2 h1 h2
  obtain ⟨kk, hkk⟩ : ∃ kk, kk = kindL N i := ⟨_, rfl⟩
  replace hkk := hkk.symm
  have hfew := ok.few
  have hNl := hN.len
  have hMl := hM.len
  have hhM : hasI M (S.length : Int) = false := hM.out (.inr (Int.le_refl _))
  have hputN := put_dmap (L := N) hh (S.length : Int)
  have hputM := fun b : Int => put_dmap (L := M) hhM b
  have hN2 : NmQ (insL (i, (S.length : Int)) N) (S ++ [newB i W H]) := hN.push (x := newB i W H) rfl hf
  have hM2 := fun (q : Pq) => hM.push (x := newB i W H) (bk' := bkOf (Q ++ [q])) (by simp [Bf.th, newB]) (fun k hk => by unfold bkOf; rw [List.getD_eq_getElem?_getD, List.getD_eq_getElem?_getD, List.getElem?_append_left (by rw [hs.ln]; exact hk)])
  have hbk : ∀ q : Pq, bkOf (Q ++ [q]) S.length = q.bk := fun q => bkOf_at (by rw [← hs.ln]; simp)
  have hkS : I64 (S.length : Int) := by unfold I64; omega
  have p1 : wrap64 ((S.length : Int) + 1) = ((S.length + 1 : Nat) : Int) := by rw [Int.natCast_add]; exact w64 (by omega) (by omega)
  have p2 : IntKind.i64.wrap ((S.length : Int) + 1) = ((S.length + 1 : Nat) : Int) := by rw [Int.natCast_add]; exact IntWalk.i64_in _ (by omega)
  have hnp := hs.np
  have c1 := hs.hd.cell 1
  have kS := Lib.hid (fun (V : World) (g : Gr w V) => hs.bl g.bl)
  have P0 := Lib.hid (fun (V : World) (g : Kx (fun k => k = pp ∨ k = nb ∨ k = bb) w V) (q : Pq) (hp : At V pp #[.int .i64 ((S.length + 1 : Nat) : Int), .map (some nb), .map (some bb)] 246) (e1 : Mp V nb (insL (i, (S.length : Int)) N)) (e2 : Pm V bb (insL ((S.length : Int), (q.bk : Int)) M))
      (e3 : At V q.bk #[.int .i64 i, .pointer (some ⟨q.pm, 0, none⟩), .int .i64 0] 268) (e4 : Img V q.pm q.pc W H (List.replicate (W * H) 0)) (e5 : w.heap.size ≤ q.bk) (e6 : w.heap.size ≤ q.pc) =>
    (show PmQ w pp nb bb Q (S ++ [newB i W H]) (n + 1) (.tuple #[.int .i64 (S.length : Int), .int .i64 0]) (.returned (.tuple #[.int .i64 (S.length : Int), .int .i64 0])) V from
      ⟨Q ++ [q], rfl, ⟨⟨_, _, hs.push (s := newB i W H) g hp e1 e2 e3 e4 e5 e6, hN2, by have := hM2 q; rw [hbk q] at this; exact this⟩, hok⟩, ⟨g.os, g.tape, g.output, g.size, fun k hk hx => g.block k hk (by rintro (rfl | rfl | rfl); exact hx (.inl rfl); exact hx (.inr (.inl rfl)); exact hx (.inr (.inr (.inl rfl))))⟩,
        fun j hj => by
          rcases hj with rfl | rfl | rfl | ⟨r, hr, hj⟩
          · exact .inl (.inl rfl)
          · exact .inl (.inr (.inl rfl))
          · exact .inl (.inr (.inr (.inl rfl)))
          · rcases List.mem_append.1 hr with hr | hr
            · exact .inl (.inr (.inr (.inr ⟨r, hr, hj⟩)))
            · rw [List.mem_singleton] at hr; subst hr
              rcases hj with rfl | rfl
              · exact .inr e5
              · exact .inr e6⟩))
  clear hs hf hok hN hM hN2 hM2 hbk w1 w2 h1 h2
  generalize hsl : S.length = sl at *
  generalize newB i W H = nB at *
  replace hsl := Lib.hid hsl
  generalize hs1 : sl + 1 = s1 at *
  replace hs1 := Lib.hid hs1
  replace hfew := Lib.hid hfew
  replace hNl := Lib.hid hNl
  replace hMl := Lib.hid hMl
  go_enter Tryz.func224, Tryz.ntmps224
  go_wp2_with (at_lookup; refine wp_lookN rfl _ _ rfl nb N i rfl rfl hnp hi kk hkk false hh ?_)
  refine cN.mono ?_
  rintro e v1 ⟨pm, pc, rfl, I1, hpm, hpc, g1⟩
  have S1 := kS.out v1 g1
  have d0 := S1.hd.cell 0
  have d1 := S1.hd.cell 1
  have f0 := S1.hd.free 0
  rw [hsl.out] at d0
  have gA : v1.grownBy (v1.setCell ⟨pp, 0, none⟩ (.int .i64 (s1 : Int))) (some pp) := By.set (p := ⟨pp, 0, none⟩) (By.refl v1 _) _
  have hA : At (v1.setCell ⟨pp, 0, none⟩ (.int .i64 (s1 : Int))) pp #[.int .i64 (s1 : Int), .map (some nb), .map (some bb)] 246 := by simpa using S1.hd.put 0 (.int .i64 (s1 : Int))
  have nA : Mp (v1.setCell ⟨pp, 0, none⟩ (.int .i64 (s1 : Int))) nb N := S1.np.by gA (fun e => S1.np.ne S1.hd (Option.some.inj e).symm)
  have bA : Pm (v1.setCell ⟨pp, 0, none⟩ (.int .i64 (s1 : Int))) bb M := S1.bp.by gA (fun e => S1.bp.ne S1.hd (Option.some.inj e).symm)
  have iA : Img (v1.setCell ⟨pp, 0, none⟩ (.int .i64 (s1 : Int))) pm pc W H (List.replicate (W * H) 0) := I1.kept gA (fun e => (I1.hd.neP S1.hd (by decide)) (Option.some.inj e)) (fun e => (I1.cs.neP S1.hd (by decide)) (Option.some.inj e))
  have hnbb := S1.nbb
  have hownN := nA
  unfold Mp at hownN
  have hNm : N.length < maxLen := by have := hNl.out; have := hfew.out; have := hsl.out; unfold maxLen; omega
  have hMm : M.length < maxLen := by have := hMl.out; have := hfew.out; have := hsl.out; unfold maxLen; omega
  clear cN kS hnp c1 hh
  go_wp2_with (first
    | (at_mapUpdate; refine wpList_mapUpdate_in _ rfl _ _ _ 241 rfl 3 3 keyInt Tryz.underlying241 _ nb _ _ rfl hownN hNm _ _ _ rfl rfl (keyOf_int_mk Tryz.underlying3 (wf64 hi)) _ [] (plainElem_int Tryz.underlying3 (wf64 hkS)) ?_; intro v2 hown2 hturn2; rw [hputN] at hown2; have A2 := hA.grown hturn2.grown (fun e => nA.ne hA (Option.some.inj e)); have d22 := A2.cell 2)
    | (at_mapUpdate; refine wpList_mapUpdate_in _ rfl _ _ _ 244 rfl 3 265 keyInt Tryz.underlying244 pElem bb _ _ rfl ((bA.by hturn2.grown (fun e => hnbb (Option.some.inj e).symm)).bl ((Bl.refl _).alloc _)) hMm _ _ _ rfl rfl (keyOf_int_mk Tryz.underlying3 (wf64 hkS)) _ [] rfl ?_; intro v3 hown3 hturn3; rw [hputM] at hown3)
    | go_in)
  go_ret2
  have B2 := (bA.by hturn2.grown (fun e => hnbb (Option.some.inj e).symm)).bl ((Bl.refl v2).alloc (.cells #[.int .i64 i, .pointer (some ⟨pm, 0, none⟩), .int .i64 0] 268))
  have A3 := A2.alloc (.cells #[.int .i64 i, .pointer (some ⟨pm, 0, none⟩), .int .i64 0] 268)
  have N3 := (Mp.of hown2).bl ((Bl.refl v2).alloc (.cells #[.int .i64 i, .pointer (some ⟨pm, 0, none⟩), .int .i64 0] 268))
  have C3 := At.new v2 #[.int .i64 i, .pointer (some ⟨pm, 0, none⟩), .int .i64 0] 268
  have I2 := (iA.kept hturn2.grown (fun e => nA.ne iA.hd (Option.some.inj e)) (fun e => nA.ne iA.cs (Option.some.inj e))).bl ((Bl.refl v2).alloc (.cells #[.int .i64 i, .pointer (some ⟨pm, 0, none⟩), .int .i64 0] 268))
  have hg1 := g1.size
  have hg2 := hturn2.grown.size
  have hg : w.heap.size ≤ v2.heap.size := by simp at hg2; omega
  exact P0.out v3 (((((Kx.bl g1.bl).then (Kx.by gA (.inl rfl))).then (Kx.by hturn2.grown (.inr (.inl rfl)))).gr ((Bl.refl v2).alloc _)).then (Kx.by hturn3.grown (.inr (.inr rfl)))) ⟨v2.heap.size, pm, pc⟩
    (A3.grown hturn3.grown (fun e => B2.ne A3 (Option.some.inj e))) (N3.by hturn3.grown (fun e => hnbb (Option.some.inj e))) (Pm.of hown3) (C3.grown hturn3.grown (fun e => B2.ne C3 (Option.some.inj e)))
    (I2.kept hturn3.grown (fun e => B2.ne I2.hd (Option.some.inj e)) (fun e => B2.ne I2.cs (Option.some.inj e))) hg hpc
end

end Go.Proofs.YtablogiielclaaaGreat
namespace Go.Proofs.YtablogiielclaaaGreat
open Go.ChangeShapes Go.WideShapes Go.ChangeAt Go.RowKit Go.Joins Go.Sort Go.Deep Go.Maps

/-- How a function among a map's elements reads: its number. -/
def fElem (v : Value) : Option (DataW Unit × List MemPlace) := match v with
  | .func (.func g) a b => if a.size = 0 ∧ b.size = 0 then some (.lit (.int .i64 (g : Nat)), []) else none
  | .nilFunc => some (.lit (.int .i64 (-1)), [])
  | _ => none
theorem fElem_inv {v : Value} {z : DataW Unit × List MemPlace} (h : fElem v = some z) : (∃ g : Nat, v = .func (.func g) #[] #[] ∧ z.1 = .lit (.int .i64 g)) ∨ (v = .nilFunc ∧ z.1 = .lit (.int .i64 (-1))) := by
  unfold fElem at h
  split at h
  · rename_i g a b
    split at h
    · rename_i hab
      cases h
      obtain rfl := Array.eq_empty_of_size_eq_zero hab.1
      obtain rfl := Array.eq_empty_of_size_eq_zero hab.2
      exact .inl ⟨_, rfl, rfl⟩
    · cases h
  · cases h; exact .inr ⟨rfl, rfl⟩
  · cases h
theorem zeroFn (w : World) : (zeroValue 206).run Tryz.prog w = .ok .nilFunc w := by kernel_rfl
/-- Block b is a map of functions that reads as this list. -/
def Fm (w : World) (b : Nat) (M : List Ik) : Prop := w.ownsMap Tryz.prog 3 fElem b M.length (dmap M)
theorem Fm.of {w : World} {b n : Nat} {L : List Ik} (h : w.ownsMap Tryz.prog 3 fElem b n (dmap L)) : Fm w b L := by
  have := tight h
  rw [size_dmap] at this
  exact this
theorem Fm.by {w w' : World} {b : Nat} {L : List Ik} (h : Fm w b L) {row : Option Nat} (g : w.grownBy w' row) (hne : some b ≠ row) : Fm w' b L := World.ownsMap.kept h g hne
theorem Fm.bl {w w' : World} {b : Nat} {L : List Ik} (h : Fm w b L) (g : Bl w w') : Fm w' b L := h.by (g.byr none) (by simp)
theorem run_lookF {w : World} {b : Nat} {M : List Ik} {i : Int} (h : Fm w b M) (hi : I64 i) {g : Nat} (hn : kindL M i = g) (ht : hasI M i = true) : (Instr.lookup 208 (.map (some b)) (.int .i64 i) true).run Tryz.prog w = .ok (.tuple #[.func (.func g) #[] #[], .bool true]) w := by
  obtain ⟨v, ps, hrun, hv⟩ := World.ownsMap.look_ok (zd := .lit (.int .i64 (-1))) (zp := []) h keyInt Tryz.underlying208 (zeroFn w) rfl (keyOf_int_mk Tryz.underlying3 (wf64 hi))
  rw [atKey_dmap, ht, hn] at hv
  rw [has_dmap, ht] at hrun
  rw [hrun]
  rcases fElem_inv hv with ⟨c, rfl, hc⟩ | ⟨rfl, hc⟩
  · simp at hc
    obtain rfl : g = c := by omega
    rfl
  · simp at hc
section
variable {ops : Array Oper} {rest : List Oper} {o : Oper} {a : Act} {w : World} {Q : Exit → Act → World → Prop}
theorem wp_insF (hgd : o.guard = none) (m x v : Operand) (hop : o.op = Op.insert 208 m x v) (w0 : World) (b : Nat) (M : List Ik) (i : Int) (g : Nat) (hm : a.eval m = .map (some b)) (hx : a.eval x = .int .i64 i) (hv : a.eval v = .func (.func g) #[] #[])
    (h : Fm w b M ∧ Bl w0 w ∧ w0.heap.size ≤ b) (hi : I64 i) (hno : hasI M i = false) (hl : M.length < maxLen)
    (hK : ∀ w', Fm w' b (insL (i, (g : Int)) M) ∧ Bl w0 w' ∧ w0.heap.size ≤ b → wpList Tryz.prog ops Q rest (a.put o.dst undef) w') : wpList Tryz.prog ops Q (o :: rest) a w := by
  refine wpList_plain hgd fun K' hK' => ?_
  obtain ⟨w', hrun, r1, r2⟩ := World.ownsMap.update h.1 keyInt Tryz.underlying208 hl (keyOf_int_mk Tryz.underlying3 (wf64 hi)) (show fElem (.func (.func g) #[] #[]) = some (.lit (.int .i64 g), []) from rfl)
  rw [put_dmap hno] at r1
  unfold Oper.wp
  simp [execOp, hop, hm, hx, hv, hrun, Result.andThen]
  exact hK' _ _ (hK w' ⟨Fm.of r1, h.2.1.grown r2 (fun j hj => by cases hj; exact h.2.2), h.2.2⟩)
end
def opsL : List Ik := [(0, 169), (1, 170), (2, 171), (3, 172), (4, 173), (5, 174), (6, 175), (7, 176), (8, 177), (9, 178), (10, 179), (11, 180), (12, 181), (13, 182), (14, 183), (15, 184), (16, 185), (17, 186), (18, 187)]
theorem clops1 (w : World) : Calls Tryz.prog 122 #[] w fun e w' => ∃ b, e = .returned (.map (some b)) ∧ Fm w' b opsL ∧ Bl w w' := by
  have hmm := @run_makeMap Tryz.prog
  have hF0 : Fm (w.alloc (.map #[] 0)) w.heap.size [] ∧ Bl w (w.alloc (.map #[] 0)) ∧ w.heap.size ≤ w.heap.size := ⟨World.ownsMap_made w _ _ _, (Bl.refl w).alloc _, Nat.le_refl _⟩
  go_enter Tryz.func122, Tryz.ntmps122
  go_wp2_with (first | (refine wp_insF rfl _ _ _ rfl w w.heap.size _ _ _ rfl rfl rfl (by assumption) (by unfold I64; omega) (by kernel_rfl) (by unfold maxLen; decide) ?_; intro w9 hF9) | go_in)
  go_ret
  exact ⟨_, rfl, hF9.1, hF9.2.1⟩
/-- An event as it lies. -/
def evC (k i a b : Int) : Array Value := #[.int .i64 k, .int .i64 i, .int .i64 a, .int .i64 b]
theorem clrefuse1 (cb : Option Addr) (op i a b r0 r1 r2 r3 e0 : Int) (s : ByteArray) (D : Option Addr) (m c : Nat) (w : World) :
    Calls Tryz.prog 123 #[.pointer cb, .agg #[.int .i64 op, .int .i64 i, .int .i64 a, .int .i64 b, .int .i64 r0, .int .i64 r1, .int .i64 r2, .int .i64 r3, .string s, .slice D m c], .int .i64 e0] w fun e w' => ∃ k, e = .returned (.slice (some ⟨k, 0, none⟩) 1 1) ∧ At w' k (evC 0 i e0 op) 108 ∧ Bl w w' := by
  have cE := fun (V : World) => (show Calls Tryz.prog 188 #[.pointer cb, .agg #[.int .i64 op, .int .i64 i, .int .i64 a, .int .i64 b, .int .i64 r0, .int .i64 r1, .int .i64 r2, .int .i64 r3, .string s, .slice D m c], .int .i64 e0] V (fun e w' => e = .returned (.agg (evC 0 i e0 op)) ∧ Bl V w') from by
    go_enter Tryz.func188, Tryz.ntmps188
    go_wp2
    exact bodyPost_ret (results_cell_row rfl _ _ (V.heap.size + 1) _ (evC 0 i e0 op) (0, 0) _ rfl (At.newAt (by simp) _ _) Tryz.underlying108 rfl (by kernel_rfl)) rfl ⟨rfl, ((Bl.refl _).alloc _).alloc _⟩)
  go_enter Tryz.func123, Tryz.ntmps123
  go_wp2_with fail
  refine (cE _).mono ?_
  rintro e w1 ⟨rfl, g1⟩
  unfold evC
  go_wp2
  go_ret
  exact ⟨_, rfl, At.new _ _ _, ((((Bl.refl _).alloc _).trans g1).alloc _)⟩

end Go.Proofs.YtablogiielclaaaGreat
namespace Go.Proofs.YtablogiielclaaaGreat
open Go.ChangeShapes Go.WideShapes Go.ChangeAt Go.RowKit Go.Joins Go.Sort Go.Deep

/-- Cells from i on are turned to these. -/
def setsL : List Value → Nat → List Value → List Value
  | xs, _, [] => xs
  | xs, i, u :: us => setsL (xs.set i u) (i + 1) us
theorem Shp.Ow.free {α : Type} {S : Shp α} {T : TypeId} {w : World} {B c g : Nat} {l : List α} (h : S.Ow T w B (some ⟨g, 0, none⟩) c l) (i : Nat) : w.frozen? ⟨g, i, none⟩ = false := by
  rcases h.2 with ⟨h1, _⟩ | ⟨g', cap, cur, h1, _, h3, _⟩
  · cases h1
  · injection h1 with h1
    injection h1 with h1
    injection h1 with h1
    subst h1
    simp [World.frozen?, h3]
/-- An element's cells are there, and may be written. -/
theorem Shp.Ow.there {α : Type} {S : Shp α} {T : TypeId} {w : World} {B c g : Nat} {l : List α} (h : S.Ow T w B (some ⟨g, 0, none⟩) c l) {k : Nat} (hk : k < l.length) : w.there g (k * S.n) S.n := fun j hj => by
  have hb : k * S.n + j < l.length * S.n := by
    have : (k + 1) * S.n ≤ l.length * S.n := Nat.mul_le_mul_right _ hk
    rw [Nat.add_mul] at this; omega
  have q := World.ownsRow.cellAt h (k * S.n + j) hb
  refine ⟨?_, h.free _⟩
  rw [q, List.getElem?_eq_getElem (by rw [S.cs_len]; exact hb)]
  rfl

end Go.Proofs.YtablogiielclaaaGreat
namespace Go.Proofs.YtablogiielclaaaGreat
open Go.RowKit Go.Sort

/-- A row of n rectangles lies from cell off of block b on. -/
def Row (w : World) (b off n : Nat) (f : Nat → Rc) : Prop := ∀ k, k < n → w.cell? ⟨b, off + k * 4, none⟩ = some (.int .i64 (f k).a) ∧ w.cell? ⟨b, off + k * 4 + 1, none⟩ = some (.int .i64 (f k).b) ∧
  w.cell? ⟨b, off + k * 4 + 2, none⟩ = some (.int .i64 (f k).c) ∧ w.cell? ⟨b, off + k * 4 + 3, none⟩ = some (.int .i64 (f k).d)
theorem Row.lt {w : World} {b off n : Nat} {f : Nat → Rc} (h : Row w b off n f) {k : Nat} (hk : k < n) : b < w.heap.size := World.block_lt_of_cell? w ⟨b, off + k * 4, none⟩ (h k hk).1
theorem Row.gr {w w' : World} {b off n : Nat} {f : Nat → Rc} (h : Row w b off n f) (g : Gr w w') : Row w' b off n f := fun k hk => by
  have hl := h.lt hk
  obtain ⟨h1, h2, h3, h4⟩ := h k hk
  exact ⟨(g.cell hl).trans h1, (g.cell hl).trans h2, (g.cell hl).trans h3, (g.cell hl).trans h4⟩

end Go.Proofs.YtablogiielclaaaGreat
