/-
  What is proved: what a world keeps of which nothing has turned but some blocks. No conditions.
-/
import Derived.Test.YtgjoipndhlngnaaGw
namespace Go.Proofs.Ytgjoipndhlngnaa
open Go.RowKit Go.Sort Go.Deep

/-- Nothing has turned but blocks of X, and what is new. -/
structure Kx (X : Nat → Prop) (w w' : World) : Prop where
  os : w'.os = w.os
  tape : w'.tape = w.tape
  output : w'.output = w.output
  size : w.heap.size ≤ w'.heap.size
  block : ∀ k, k < w.heap.size → ¬ X k → w'.heap[k]? = w.heap[k]?
theorem Kx.by {X : Nat → Prop} {w w' : World} {r : Nat} (g : w.grownBy w' (some r)) (h : X r) : Kx X w w' := ⟨g.os, g.tape, g.output, g.size, fun k hk hx => g.block k hk (fun e => hx (by cases e; exact h))⟩
theorem Kx.bl {X : Nat → Prop} {w w' : World} (g : Bl w w') : Kx X w w' := ⟨Below.os g, Below.tape g, Below.output g, g.size, fun k hk _ => Below.block g k hk⟩
theorem Kx.refl (X : Nat → Prop) (w : World) : Kx X w w := Kx.bl (Bl.refl w)
theorem Kx.trans {X Y : Nat → Prop} {a b c : World} (h : Kx X a b) (k : Kx Y b c) (hY : ∀ j, Y j → X j ∨ a.heap.size ≤ j) : Kx X a c :=
  ⟨k.os.trans h.os, k.tape.trans h.tape, k.output.trans h.output, Nat.le_trans h.size k.size, fun j hj hx => (k.block j (Nat.lt_of_lt_of_le hj h.size) (fun hy => by rcases hY j hy with h' | h'; exact hx h'; omega)).trans (h.block j hj hx)⟩
theorem Kx.then {X : Nat → Prop} {a b c : World} (h : Kx X a b) (k : Kx X b c) : Kx X a c := h.trans k fun _ => .inl
theorem Kx.gr {X : Nat → Prop} {a b c : World} (h : Kx X a b) (k : Bl b c) : Kx X a c := h.then (Kx.bl k)
theorem Kx.under {X : Nat → Prop} {w0 w w' : World} (h : Kx X w w') (hX : ∀ k, X k → w0.heap.size ≤ k) (g : Bl w0 w) : Bl w0 w' :=
  ⟨h.os.trans (Below.os g), h.tape.trans (Below.tape g), h.output.trans (Below.output g), Nat.le_trans g.size h.size, fun k hk => (h.block k (Nat.lt_of_lt_of_le hk g.size) (fun hx => by have := hX k hx; omega)).trans (Below.block g k hk)⟩
theorem Kx.cell {X : Nat → Prop} {w w' : World} (h : Kx X w w') {p : Addr} {v : Value} (hp : w.cell? p = some v) (hx : ¬ X p.block) : w'.cell? p = some v := by
  have hb := h.block p.block (World.block_lt_of_cell? w p hp) hx
  unfold World.cell? at *
  rw [hb]; exact hp

theorem At.kx {X : Nat → Prop} {w w' : World} {b : Nat} {cs : Array Value} {t : TypeId} (h : At w b cs t) (g : Kx X w w') (hx : ¬ X b) : At w' b cs t := by
  have := g.block b h.lt hx
  unfold At at *; rw [this]; exact h

theorem At.neP {w : World} {a b : Nat} {cs ds : Array Value} {t u : TypeId} (h : At w a cs t) (k : At w b ds u) (hne : t ≠ u) : a ≠ b := by
  rintro rfl
  unfold At at h k
  rw [h] at k
  injection k with k
  injection k with _ k
  exact hne k
theorem Kx.new {X : Nat → Prop} {a b : World} (h : Kx X a b) {p : Addr} (hp : a.heap.size ≤ p.block) (u : Value) : Kx X a (b.setCell p u) :=
  ⟨h.os, h.tape, h.output, by simpa using h.size, fun k hk hx => (Below.heap_setCell _ _ _ _ (by omega)).trans (h.block k hk hx)⟩
theorem Kx.set {X : Nat → Prop} {a b : World} (h : Kx X a b) {p : Addr} (hp : X p.block) (u : Value) : Kx X a (b.setCell p u) :=
  h.then (Kx.by (By.set (p := p) (By.refl b _) u) hp)
theorem Kx.up {X Y : Nat → Prop} {a b : World} (h : Kx X a b) (hXY : ∀ k, X k → Y k) : Kx Y a b := ⟨h.os, h.tape, h.output, h.size, fun k hk hy => h.block k hk fun hx => hy (hXY k hx)⟩
/-- A block of a kind that X has none of. -/
def Xf (w : World) (X : Nat → Prop) (t : TypeId) : Prop := ∀ k cs, X k → ¬ At w k cs t
theorem At.kt {X : Nat → Prop} {w w' : World} {b : Nat} {cs : Array Value} {t : TypeId} (h : At w b cs t) (g : Kx X w w') (hx : Xf w X t) : At w' b cs t := h.kx g fun hb => hx b cs hb h
theorem Shp.Ow.kx {α : Type} {S : Shp α} {T : TypeId} {X : Nat → Prop} {w w' : World} {B c : Nat} {A : Option Addr} {L : List α} (h : S.Ow T w B A c L) (g : Kx X w w') (hx : Xf w X T) : S.Ow T w' B A c L := by
  rcases h.2 with ⟨h1, h2⟩ | ⟨b, cap, cur, h1, h2, h3, h4⟩
  · exact ⟨h.1, .inl ⟨h1, h2⟩⟩
  · exact ⟨h.1, .inr ⟨b, cap, cur, h1, h2, (show At w' b cur T from At.kt h3 g hx), h4⟩⟩
theorem Shp.Ow.ne_at {α : Type} {S : Shp α} {T : TypeId} {w : World} {B c : Nat} {A : Option Addr} {l : List α} (h : S.Ow T w B A c l) {b : Nat} {cs : Array Value} {t : TypeId} (k : At w b cs t) (hne : T ≠ t) : A = none ∨ A.map (·.block) ≠ some b := by
  rcases h.2 with ⟨h1, _⟩ | ⟨g, cap, cur, h1, _, h3, _⟩
  · injection h1 with h1; exact .inl h1
  · injection h1 with h1
    right
    rw [h1]
    intro e
    have : g = b := by simpa using e
    subst this
    unfold At at k
    rw [h3] at k
    injection k with k
    injection k with _ k
    exact hne k

end Go.Proofs.Ytgjoipndhlngnaa
