/-
  What is proved: a stack over a whole walk; the statements' own example. Conditions: bounds on lengths.
-/
import Derived.Test.YtgjoipndhlngnaaSko
import Derived.Test.YtgjoipndhlngnaaSkh
namespace Go.Proofs.Ytgjoipndhlngnaa
open Go.ChangeShapes Go.WideShapes Go.ChangeAt Go.RowKit Go.Joins Go.Sort Go.Deep

section
attribute [local go_sem ↓] eqlK neqK eqlP neqP

theorem PrS.xf {w : World} {B pa c : Nat} {A : Option Addr} {L : List Ky} (h : PrS w B pa A c L) {t : TypeId} (h1 : 59 ≠ t) (h2 : 26 ≠ t) : Xf w (SX pa A) t := by
  rintro k cs (rfl | hk) hat
  · exact (h.hd.neP hat h1) rfl
  · rcases h.own.ne_at hat h2 with rfl | h'
    · cases hk
    · exact h' hk
/-- A stack over a whole walk. -/
structure SS (w0 w : World) (pa : Nat) (A : Option Addr) (c : Nat) (L : List Ky) : Prop where
  p : PrS w w0.heap.size pa A c L
  hp : w0.heap.size ≤ pa
  g : Bl w0 w
theorem SS.bl {w0 w w' : World} {pa c : Nat} {A : Option Addr} {L : List Ky} (h : SS w0 w pa A c L) (k : Bl w w') : SS w0 w' pa A c L := ⟨h.p.bl k, h.hp, h.g.trans k⟩
theorem SS.up {w0 w : World} {pa c : Nat} {A : Option Addr} {L : List Ky} (h : SS w0 w pa A c L) : ∀ k, SX pa A k → w0.heap.size ≤ k := by
  rintro k (rfl | hk)
  · exact h.hp
  · exact h.p.own.above hk
theorem SS.next {w0 w w' : World} {pa c : Nat} {A : Option Addr} {L L' : List Ky} (h : SS w0 w pa A c L) (q : StQ w w0.heap.size pa A L' w') : ∃ A' c', SS w0 w' pa A' c' L' ∧ Kx (SX pa A) w w' := by
  obtain ⟨A', c', h1, h2, _⟩ := q
  exact ⟨A', c', ⟨h1, h.hp, h2.under h.up h.g⟩, h2⟩
theorem Rd.ofAt {α : Type} {S : Shp α} {w : World} {g : Nat} {T : TypeId} (l : List α) {xs : Array Value} (h : At w g xs T) (hx : xs.toList = S.cs l) : S.Rd w (some ⟨g, 0, none⟩) l := by
  have h' : At w g (S.cs l ++ []).toArray T := by rw [List.append_nil, ← hx]; exact h
  by_cases hl : l.length ≤ maxLen
  · exact (Shp.Ow.of (B := 0) (c := l.length) h' (Nat.zero_le _) hl (by rw [List.append_nil, S.cs_len])).rd
  · refine .inr ⟨g, 0, rfl, fun k y hk j u hj => ?_⟩
    have hj' : j < S.n := by
      rw [← S.len y]
      rcases Nat.lt_or_ge j (S.c y).length with h2 | h2
      · exact h2
      · rw [List.getElem?_eq_none h2] at hj; cases hj
    rw [h.cell, Nat.zero_add, ← Array.getElem?_toList, hx, S.cs_get l k y j hk hj', hj]

set_option maxRecDepth 100000 in
set_option maxHeartbeats 2000000 in
theorem livesK (w : World) : Calls Try.prog 19 #[] w fun e w' => e = .returned (.bool true) ∧ Bl w w' := by
  have b0 := At.new w #[.int .i64 0, .int .i64 1, .int .i64 0, .int .i64 2, .int .i64 0, .int .i64 3] 26
  have r0 : shK.Rd (w.alloc (.cells #[.int .i64 0, .int .i64 1, .int .i64 0, .int .i64 2, .int .i64 0, .int .i64 3] 26)) (some ⟨w.heap.size, 0, none⟩) [(0, 1), (0, 2), (0, 3)] := Rd.ofAt _ b0 rfl
  have cN := pNewK (c := 3) r0 (by simp)
  rw [show newK [((0 : Int), (1 : Int)), (0, 2), (0, 3)] = [(0, 1), (0, 2), (0, 3)] from by decide] at cN
  simp only [List.length_cons, List.length_nil, Nat.zero_add, Nat.reduceAdd] at cN
  clear r0 b0
  go_enter Try.func19, Try.ntmps19
  go_wp2_with fail
  refine cN.mono ?_
  rintro e w2 ⟨pa, A, c, rfl, hpa, P, g2⟩
  have cR := pRaiseK P (by simp) g2.size (0, 1) (0, 2)
  rw [show raiseE [((0 : Int), (1 : Int)), (0, 2), (0, 3)] (0, 1) (0, 2) = 0 from by decide, show raiseK [((0 : Int), (1 : Int)), (0, 2), (0, 3)] (0, 1) (0, 2) = [(0, 2), (0, 1), (0, 3)] from by decide] at cR
  clear cN
  go_wp2_with fail
  refine cR.mono ?_
  rintro e w3 ⟨rfl, A3, c3, P3, k3, n3⟩
  simp at hpa
  have G3 : Bl w w3 := k3.under (fun x hx => by
    rcases hx with rfl | hx
    · omega
    · have := P.own.above hx; simp at this; omega) (((Bl.refl w).alloc _).trans g2)
  have cA := pAllK P3 (by simp)
  simp only [List.length_cons, List.length_nil, Nat.zero_add, Nat.reduceAdd] at cA
  clear cR
  go_wp2_with fail
  refine cA.mono ?_
  rintro e w4 ⟨A4, c4, rfl, own4, g4⟩
  have cS := as1 (c := c4) own4.rd (by simp)
  simp only [List.length_cons, List.length_nil, Nat.zero_add, Nat.reduceAdd] at cS
  clear cA
  go_wp2_with fail
  refine cS.mono ?_
  rintro e w5 ⟨A5, c5, rfl, own5, g5⟩
  have b1 := At.new w5 #[.int .i64 0, .int .i64 2, .int .i64 0, .int .i64 1, .int .i64 0, .int .i64 3] 27
  have r1 : shK.Rd (w5.alloc (.cells #[.int .i64 0, .int .i64 2, .int .i64 0, .int .i64 1, .int .i64 0, .int .i64 3] 27)) (some ⟨w5.heap.size, 0, none⟩) [(0, 2), (0, 1), (0, 3)] := Rd.ofAt _ b1 rfl
  have cE := rSameK (c := c5) (d := 3) (own5.bl ((Bl.refl w5).alloc (.cells #[.int .i64 0, .int .i64 2, .int .i64 0, .int .i64 1, .int .i64 0, .int .i64 3] 27))).rd r1 (by simp) (by simp)
  rw [show decide ([((0 : Int), (2 : Int)), (0, 1), (0, 3)] = [(0, 2), (0, 1), (0, 3)]) = true from by decide] at cE
  simp only [List.length_cons, List.length_nil, Nat.zero_add, Nat.reduceAdd] at cE
  clear cS b1 r1
  go_wp2_with fail
  refine cE.mono ?_
  rintro e w6 ⟨rfl, g6⟩
  have G6 := (((G3.trans g4).trans g5).alloc (.cells #[.int .i64 0, .int .i64 2, .int .i64 0, .int .i64 1, .int .i64 0, .int .i64 3] 27)).gr g6
  clear cE
  go_wp2
  go_ret
  exact ⟨rfl, G6⟩
end

end Go.Proofs.Ytgjoipndhlngnaa
