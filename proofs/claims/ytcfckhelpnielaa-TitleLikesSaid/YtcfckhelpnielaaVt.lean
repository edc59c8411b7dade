/-
  What is proved: small facts on a builder and what is laid beside it. No conditions.
-/
import Derived.Test.YtcfckhelpnielaaVd
import Derived.Test.YtcfckhelpnielaaVm
namespace Go.Proofs.Ytcfckhelpnielaa
open Go.RowKit Go.Sort Go.Shelf

/-- A builder of this program, in block b, that holds these bytes. -/
def Bd (B b : Nat) (L : List UInt8) (w : World) : Prop := Lib.IsBuilderF 49 5 B b (Lib.byteCells L) w
theorem Bd.grown {B b : Nat} {L : List UInt8} {w w' : World} {row : Option Nat} (h : Bd B b L w) (g : w.grownBy w' row) (hr : ∀ r, row = some r → r ≠ b ∧ ∀ c fz, w.heap[r]? ≠ some (.cells c 5 fz)) : Bd B b L w' := by
  have key : ∀ p, Lib.BuilderAtF 49 5 B b p (Lib.byteCells L) w → Lib.BuilderAtF 49 5 B b p (Lib.byteCells L) w' := fun p hp => by
    have hlt := hp.lt
    obtain ⟨hB, v, hb, hown, hne⟩ := hp
    refine ⟨hB, v, (g.block b hlt (fun e => (hr b e.symm).1 rfl)).trans hb, hown.kept g ?_, hne⟩
    cases hv : v.ownBlock with
    | none => exact .inl rfl
    | some k =>
      right
      intro e
      obtain ⟨c, fz, hc⟩ := Lib.ownsRowF_kind hown k hv
      exact (hr k e.symm).2 c fz hc
  exact h.elim (fun x => .inl (key _ x)) (fun x => .inr (key _ x))
theorem Bd.far {B b : Nat} {L : List UInt8} {w : World} (h : Bd B b L w) {k : Nat} {cs : Array Value} {t : TypeId} (hk : At w k cs t) (hkb : k ≠ b) (ht : t ≠ 5) (i : Nat) (u : Value) : Bd B b L (w.setCell ⟨k, i, none⟩ u) :=
  h.grown (row := some k) ⟨rfl, rfl, rfl, by simp [World.setCell], fun j _ hj => Below.heap_setCell _ _ _ _ (fun e => hj (by simp [e]))⟩ (fun r e => by
    cases e
    refine ⟨hkb, fun c fz hc => ?_⟩
    rw [show w.heap[k]? = _ from hk] at hc
    injection hc with hc
    injection hc with _ hc _
    exact ht hc)
theorem Bd.alloc {B b : Nat} {L : List UInt8} {w : World} (h : Bd B b L w) (o : Obj) : Bd B b L (w.alloc o) := Lib.IsBuilderF.alloc h o
theorem Bd.at {B b : Nat} {L : List UInt8} {w : World} (h : Bd B b L w) : ∃ cs, At w b cs 49 := by
  rcases h with ⟨_, v, hb, _⟩ | ⟨_, v, hb, _⟩
  · exact ⟨_, hb⟩
  · exact ⟨_, hb⟩
theorem Bd.lt {B b : Nat} {L : List UInt8} {w : World} (h : Bd B b L w) : b < w.heap.size := by
  obtain ⟨cs, hc⟩ := h.at
  exact At.lt hc
theorem ownBd {β : Type} (B' B b : Nat) (L : β → List UInt8) : OwnFrom B' (fun s W => Bd B b (L s) W) := fun s X Y row hs hg hr =>
  hs.grown hg (fun r e => by
    obtain ⟨_, o, ho, hc⟩ := hr r e
    refine ⟨fun e2 => ?_, fun c fz hcc => ?_⟩
    · subst e2
      obtain ⟨cs, hcs⟩ := hs.at
      rw [show X.heap[r]? = _ from hcs] at ho
      cases ho; cases hc
    · rw [hcc] at ho
      cases ho; cases hc)
theorem others_keep {b : Nat} {w w' : World} {cs : Array Value} {T : TypeId} (h : Lib.OthersKept 5 (some b) w w') (hb : At w b cs T) (hs : w.heap.size ≤ w'.heap.size) : KeepsOthers w w' :=
  ⟨hs, fun k o hk ho => h k o hk (fun e => by
    cases e
    rw [show w.heap[b]? = _ from hb] at hk
    cases hk; cases ho) (fun c fz e => by subst e; cases ho)⟩
theorem At.others {b k : Nat} {w w' : World} {cs : Array Value} {t : TypeId} (h : At w k cs t) (g : Lib.OthersKept 5 (some b) w w') (hkb : k ≠ b) (ht : t ≠ 5) : At w' k cs t :=
  g k _ h (fun e => hkb (Option.some.inj e)) (fun c fz e => by injection e with _ e _; exact ht e)
/-- A builder that was just laid. -/
theorem Bd.new (w : World) : Bd w.heap.size w.heap.size [] (w.alloc (.cells #[.pointer none, .slice none 0 0] 49)) := Lib.IsBuilderF.of (Lib.fresh_isBuilder 49 5 w)
theorem Bd.lower {B B' b : Nat} {L : List UInt8} {w : World} (h : Bd B b L w) (hB : B' ≤ B) : Bd B' b L w := by
  have key : ∀ p, Lib.BuilderAtF 49 5 B b p (Lib.byteCells L) w → Lib.BuilderAtF 49 5 B' b p (Lib.byteCells L) w := fun p hp => by
    obtain ⟨h1, v, hb, ⟨hl, hown⟩, hne⟩ := hp
    refine ⟨by omega, v, hb, ⟨hl, ?_⟩, hne⟩
    rcases hown with h | ⟨g, cap, cur, fz, a1, a2, a3⟩
    · exact .inl h
    · exact .inr ⟨g, cap, cur, fz, a1, by omega, a3⟩
  exact h.elim (fun x => .inl (key _ x)) (fun x => .inr (key _ x))
theorem byteCells_len (L : List UInt8) : (Lib.byteCells L).length = L.length := Lib.byteCells_length L
/-- A sign is written. -/
theorem writeR (B b : Nat) (L : List UInt8) (r : Int) (hr0 : 0 ≤ r) (hr1 : r ≤ 1114111) (w : World) (h : Bd B b L w) (hlen : L.length ≤ 100000000) (hB : B ≤ w.heap.size) :
    Calls Try.prog 35 #[.pointer (some ⟨b, 0, none⟩), .int .i32 r] w fun e w' => (∃ n, e = .returned (.tuple #[.int .i64 n, .nilIface])) ∧ Bd B b (L ++ Lib.encodeRune r) w' ∧ Below B w w' ∧ Lib.OthersKept 5 (some b) w w' := by
  refine (writeRune1 B b _ r (by omega) (by omega) w h (by rw [byteCells_len]; omega) hB).mono ?_
  rintro e w' ⟨rfl, h1, h2, h3⟩
  refine ⟨⟨_, rfl⟩, ?_, h2, h3⟩
  unfold Bd
  rw [Lib.byteCells_append, Lib.byteCells_encodeRune]
  exact .inr h1
theorem stringR (B b : Nat) (L : List UInt8) (w : World) (h : Bd B b L w) (hB : B ≤ w.heap.size) :
    Calls Try.prog 36 #[.pointer (some ⟨b, 0, none⟩)] w fun e w' => e = .returned (.string (bs L)) ∧ Below B w w' ∧ Lib.OthersKept 5 (some b) w w' := by
  refine (sh_Builder_String_any_k B b L w h hB).mono ?_
  rintro e w' ⟨rfl, _, h2, h3⟩
  exact ⟨rfl, h2, h3⟩

end Go.Proofs.Ytcfckhelpnielaa
