/-
  What is proved: rows of requests, of either package: how they read, what append does to them; the requests of messages, step by step. No conditions but bounds. what Split of the document's package of messages hands back. No conditions but bounds. what Split of package frame hands back. No conditions but bounds. what Parse of package request, and the document's, hand back of any bytes. No conditions but bounds. No conditions but bounds.
-/
import Derived.Test.YthkbenhlhldglaaDoorZi
import Derived.Test.YthkbenhlhldglaaDoorZj
import Derived.Test.YthkbenhlhldglaaDoorZm
import Derived.Test.YthkbenhlhldglaaDoorMb
import Derived.Test.YthkbenhlhldglaaDoorMc
import Derived.Test.YthkbenhlhldglaaDoorOf
import Derived.Test.YthkbenhlhldglaaDoorOfb
import Derived.Deep.RegionHeld3
namespace Go.Proofs.YthkbenhlhldglaaDoor
open Go.RowKit Go.Sort

def c10p (p : Rq × Value) : List Value := [.int .i64 p.1.op, .int .i64 p.1.id, .int .i64 p.1.a, .int .i64 p.1.b, .int .i64 p.1.x0, .int .i64 p.1.y0, .int .i64 p.1.x1, .int .i64 p.1.y1, .string p.1.s, p.2]
def cQ : List (Rq × Value) → List Value
  | [] => []
  | r :: l => c10p r ++ cQ l
theorem c10p_len (p : Rq × Value) : (c10p p).length = 10 := rfl
theorem cQ_app : ∀ L M : List (Rq × Value), cQ (L ++ M) = cQ L ++ cQ M
  | [], M => rfl
  | r :: l, M => by show c10p r ++ cQ (l ++ M) = (c10p r ++ cQ l) ++ cQ M; rw [cQ_app l M, List.append_assoc]
theorem cQ_get : ∀ (L : List (Rq × Value)) (k : Nat) (r : Rq × Value) (j : Nat), L[k]? = some r → j < 10 → (cQ L)[k * 10 + j]? = (c10p r)[j]?
  | [], k, r, j, h, _ => by simp at h
  | r' :: l, 0, r, j, h, hj => by
    simp at h; subst h
    unfold cQ
    rw [List.getElem?_append_left (by rw [c10p_len]; omega)]; simp
  | r' :: l, k + 1, r, j, h, hj => by
    unfold cQ
    rw [List.getElem?_append_right (by rw [c10p_len]; omega)]
    rw [show (k + 1) * 10 + j - (c10p r').length = k * 10 + j from by rw [c10p_len]; omega]
    exact cQ_get l k r j (by simpa using h) hj
theorem c10p_one {p : Rq × Value} (h : IsSl p.2) : ∀ u ∈ c10p p, u.oneCell' = true := by
  obtain ⟨A, n, c, h⟩ := h
  intro u hu
  simp [c10p, h] at hu
  rcases hu with rfl | rfl | rfl | rfl | rfl | rfl | rfl | rfl | rfl | rfl <;> rfl
/-- A row of requests: what lies in its cells. -/
def RowP (w : World) (b off : Nat) (L : List (Rq × Value)) : Prop := ∀ k r, L[k]? = some r → ∀ j u, (c10p r)[j]? = some u → w.cell? ⟨b, off + k * 10 + j, none⟩ = some u
def Pv (w : World) (A : Option Addr) (L : List (Rq × Value)) : Prop := (L = [] ∨ ∃ b off, A = some ⟨b, off, none⟩ ∧ RowP w b off L) ∧ ∀ p ∈ L, Sv w p.2 p.1.d
theorem RowP.bl {w w' : World} {b off : Nat} {L : List (Rq × Value)} (h : RowP w b off L) (g : Bl w w') : RowP w' b off L := fun k r hk j u hj => g.keep (h k r hk j u hj)
theorem Pv.bl {w w' : World} {A : Option Addr} {L : List (Rq × Value)} (h : Pv w A L) (g : Bl w w') : Pv w' A L := by
  refine ⟨?_, fun p hp => (h.2 p hp).bl g⟩
  rcases h.1 with h | ⟨b, off, h1, h2⟩
  · exact .inl h
  · exact .inr ⟨b, off, h1, h2.bl g⟩
/-- One cell's facts, all ten. -/
structure CellsP (w : World) (b o : Nat) (p : Rq × Value) : Prop where
  h0 : w.cell? ⟨b, o, none⟩ = some (.int .i64 p.1.op)
  h1 : w.cell? ⟨b, o + 1, none⟩ = some (.int .i64 p.1.id)
  h2 : w.cell? ⟨b, o + 2, none⟩ = some (.int .i64 p.1.a)
  h3 : w.cell? ⟨b, o + 3, none⟩ = some (.int .i64 p.1.b)
  h4 : w.cell? ⟨b, o + 4, none⟩ = some (.int .i64 p.1.x0)
  h5 : w.cell? ⟨b, o + 5, none⟩ = some (.int .i64 p.1.y0)
  h6 : w.cell? ⟨b, o + 6, none⟩ = some (.int .i64 p.1.x1)
  h7 : w.cell? ⟨b, o + 7, none⟩ = some (.int .i64 p.1.y1)
  h8 : w.cell? ⟨b, o + 8, none⟩ = some (.string p.1.s)
  h9 : w.cell? ⟨b, o + 9, none⟩ = some (p.2)
theorem CellsP.bl {w w' : World} {b o : Nat} {p : Rq × Value} (h : CellsP w b o p) (g : Bl w w') : CellsP w' b o p := ⟨g.keep h.h0, g.keep h.h1, g.keep h.h2, g.keep h.h3, g.keep h.h4, g.keep h.h5, g.keep h.h6, g.keep h.h7, g.keep h.h8, g.keep h.h9⟩
theorem Pv.at {w : World} {A : Option Addr} {L : List (Rq × Value)} (h : Pv w A L) {k : Nat} (hk : k < L.length) : ∃ b off p, A = some ⟨b, off, none⟩ ∧ L[k]? = some p ∧ CellsP w b (off + k * 10) p ∧ Sv w p.2 p.1.d := by
  obtain ⟨p, hp⟩ := list_at hk
  rcases h.1 with h' | ⟨b, off, rfl, hr⟩
  · subst h'; simp at hk
  · have q := hr k p hp
    exact ⟨b, off, p, rfl, hp, ⟨q 0 _ rfl, q 1 _ rfl, q 2 _ rfl, q 3 _ rfl, q 4 _ rfl, q 5 _ rfl, q 6 _ rfl, q 7 _ rfl, q 8 _ rfl, q 9 _ rfl⟩, h.2 p (List.mem_of_getElem? hp)⟩
/-- A row of requests that a call owns, of either type. -/
def OwQ (t : TypeId) (w : World) (B : Nat) (A : Option Addr) (c : Nat) (L : List (Rq × Value)) : Prop := w.ownsRow B t 10 (.slice A L.length c) L.length (cQ L) ∧ ∀ p ∈ L, Sv w p.2 p.1.d ∧ (p.1.d = [] ∨ A = none ∨ p.2.ownBlock ≠ A.map (·.block))
theorem OwQ.nil (t : TypeId) (w : World) (B : Nat) : OwQ t w B none 0 [] := ⟨World.ownsRow_nil _ _ _ _, fun p hp => by simp at hp⟩
theorem OwQ.bl {t : TypeId} {w w' : World} {B : Nat} {A : Option Addr} {c : Nat} {L : List (Rq × Value)} (h : OwQ t w B A c L) (g : Bl w w') : OwQ t w' B A c L :=
  ⟨World.ownsRow.kept h.1 (g.byr none) (by rw [slice_block]; cases A with | none => exact .inl rfl | some a => exact .inr (by simp)), fun p hp => ⟨(h.2 p hp).1.bl g, (h.2 p hp).2⟩⟩
theorem OwQ.lies {t : TypeId} {w : World} {B : Nat} {A : Option Addr} {c : Nat} {L : List (Rq × Value)} (h : OwQ t w B A c L) : A = none ∨ ∃ g, A = some ⟨g, 0, none⟩ ∧ B ≤ g ∧ g < w.heap.size := ow_lies h.1
theorem OwQ.pv {t : TypeId} {w : World} {B : Nat} {A : Option Addr} {c : Nat} {L : List (Rq × Value)} (h : OwQ t w B A c L) : Pv w A L := by
  refine ⟨?_, fun p hp => (h.2 p hp).1⟩
  rcases own_addr h.1 with ⟨_, _, h1⟩ | ⟨g, rfl, _⟩
  · exact .inl (List.eq_nil_of_length_eq_zero h1)
  · refine .inr ⟨g, 0, rfl, fun k r hk j u hj => ?_⟩
    have hl : k < L.length := by
      rcases Nat.lt_or_ge k L.length with h' | h'
      · exact h'
      · rw [List.getElem?_eq_none h'] at hk; cases hk
    have hj4 : j < 10 := by
      rcases Nat.lt_or_ge j 10 with h' | h'
      · exact h'
      · rw [List.getElem?_eq_none (by rw [c10p_len]; exact h')] at hj; cases hj
    have q := (World.ownsRow.cellAt h.1 (k * 10 + j) (by omega)).trans (cQ_get L k r j hk hj4)
    rw [hj] at q
    rw [Nat.zero_add]; exact q
theorem OwQ.grown {t : TypeId} {w w' : World} {B : Nat} {A A' : Option Addr} {c c' : Nat} {L : List (Rq × Value)} {p : Rq × Value} (h : OwQ t w B A c L) (hs : Sv w p.2 p.1.d) (hf : p.1.d = [] ∨ A = none ∨ p.2.ownBlock ≠ A.map (·.block))
    (q1 : w'.ownsRow B t 10 (.slice A' (L.length + 1) c') (L.length + 1) (cQ L ++ c10p p)) (q2 : w.grownBy w' (A.map (·.block))) (q3 : A'.map (·.block) = A.map (·.block) ∨ A'.map (·.block) = some w.heap.size) : OwQ t w' B A' c' (L ++ [p]) := by
  refine ⟨by rw [cQ_app, List.length_append]; show w'.ownsRow B _ 10 _ _ (cQ L ++ (c10p p ++ [])); rw [List.append_nil]; exact q1, ?_⟩
  have key : ∀ p : Rq × Value, Sv w p.2 p.1.d → (p.1.d = [] ∨ A = none ∨ p.2.ownBlock ≠ A.map (·.block)) → Sv w' p.2 p.1.d ∧ (p.1.d = [] ∨ A' = none ∨ p.2.ownBlock ≠ A'.map (·.block)) := by
    intro p hs hf
    have hfr : Far p.1.d p.2 (A.map (·.block)) := by
      rcases hf with hf | hf | hf
      · exact .inl hf
      · subst hf
        cases ho : p.2.ownBlock with
        | none => exact .inr (.inl ho)
        | some k => exact .inr (.inr (by rw [ho]; simp))
      · exact .inr (.inr hf)
    refine ⟨hs.by q2 hfr, ?_⟩
    by_cases hb : p.1.d = []
    · exact .inl hb
    · cases hA' : A' with
      | none => exact .inr (.inl rfl)
      | some a =>
        right; right
        intro e
        rw [hA'] at q3
        have hlt := hs.lt e hb
        rcases q3 with q3 | q3
        · rcases hf with hf | hf | hf
          · exact hb hf
          · subst hf; cases q3
          · exact hf (e.trans q3)
        · have q4 := Option.some.inj q3
          dsimp only at hlt q4; omega
  intro p' hp
  rcases List.mem_append.1 hp with hp | hp
  · exact key p' (h.2 p' hp).1 (h.2 p' hp).2
  · obtain rfl : p' = p := by simpa using hp
    exact key p' hs hf
theorem infoP1 : (Tryd.prog.info? 36).map (fun i => (i.zero, i.size, i.bytes)) = some (some (.agg #[.int .i64 0, .int .i64 0, .int .i64 0, .int .i64 0, .int .i64 0, .int .i64 0, .int .i64 0, .int .i64 0, .string ⟨#[]⟩, .slice none 0 0]), 10, 104) := by kernel_rfl
theorem infoP2 : (Tryd.prog.info? 28).map (fun i => (i.zero, i.size, i.bytes)) = some (some (.agg #[.int .i64 0, .int .i64 0, .int .i64 0, .int .i64 0, .int .i64 0, .int .i64 0, .int .i64 0, .int .i64 0, .string ⟨#[]⟩, .slice none 0 0]), 10, 104) := by kernel_rfl
theorem wp_app_q {ops : Array Oper} {rest : List Oper} {o : Oper} {a : Act} {w : World} {Q : Exit → Act → World → Prop} (hgd : o.guard = none) (s x : Operand)
    (ho : o.op = .call { callee := .builtin .append, args := #[s, x], argTypes := #[52, 52] }) (A : Option Addr) (c : Nat) (L : List (Rq × Value)) (hs : a.eval s = .slice A L.length c) (B : Nat) (hown : OwQ 36 w B A c L)
    (g : Nat) (p : Rq × Value) (hx : a.eval x = .slice (some ⟨g, 0, none⟩) 1 1) (hN : At w g (c10p p).toArray 36) (hsv : Sv w p.2 p.1.d) (hf : p.1.d = [] ∨ A = none ∨ p.2.ownBlock ≠ A.map (·.block)) (hlen : L.length + 1 ≤ 1000000000) (hB : B ≤ w.heap.size)
    (h : ∀ A' c' w', OwQ 36 w' B A' c' (L ++ [p]) → w.grownBy w' (A.map (·.block)) → wpList Tryd.prog ops Q rest (a.put o.dst (.slice A' (L.length + 1) c')) w') :
    wpList Tryd.prog ops Q (o :: rest) a w :=
  wp_app_gen (t := 52) Tryd.underlying52 infoP1 rfl (by omega) (by omega) hgd s x ho A L.length c (cQ L) hs B hown.1 (some ⟨g, 0, none⟩) 1 1 (c10p p) hx (by simp) rfl (News.at 1 hN) (c10p_one hsv.isSl) hlen hB
    fun A' c' w' q1 q2 q3 => h A' c' w' (hown.grown hsv hf q1 q2 q3) q2
theorem wp_app_rq {ops : Array Oper} {rest : List Oper} {o : Oper} {a : Act} {w : World} {Q : Exit → Act → World → Prop} (hgd : o.guard = none) (s x : Operand)
    (ho : o.op = .call { callee := .builtin .append, args := #[s, x], argTypes := #[44, 44] }) (A : Option Addr) (c : Nat) (L : List (Rq × Value)) (hs : a.eval s = .slice A L.length c) (B : Nat) (hown : OwQ 28 w B A c L)
    (g : Nat) (p : Rq × Value) (hx : a.eval x = .slice (some ⟨g, 0, none⟩) 1 1) (hN : At w g (c10p p).toArray 28) (hsv : Sv w p.2 p.1.d) (hf : p.1.d = [] ∨ A = none ∨ p.2.ownBlock ≠ A.map (·.block)) (hlen : L.length + 1 ≤ 1000000000) (hB : B ≤ w.heap.size)
    (h : ∀ A' c' w', OwQ 28 w' B A' c' (L ++ [p]) → w.grownBy w' (A.map (·.block)) → wpList Tryd.prog ops Q rest (a.put o.dst (.slice A' (L.length + 1) c')) w') :
    wpList Tryd.prog ops Q (o :: rest) a w :=
  wp_app_gen (t := 44) Tryd.underlying44 infoP2 rfl (by omega) (by omega) hgd s x ho A L.length c (cQ L) hs B hown.1 (some ⟨g, 0, none⟩) 1 1 (c10p p) hx (by simp) rfl (News.at 1 hN) (c10p_one hsv.isSl) hlen hB
    fun A' c' w' q1 q2 q3 => h A' c' w' (hown.grown hsv hf q1 q2 q3) q2
/-- What was read so far, and what is left to read, is what all is. -/
def Pdu (ms : List Ms) (k : Nat) (L : List Rq) : Prop := parF ms = (L ++ (parF (ms.drop k)).1, (parF (ms.drop k)).2)
theorem Pdu.zero (ms : List Ms) : Pdu ms 0 [] := by unfold Pdu; simp
theorem Pdu.step {ms : List Ms} {k : Nat} {L : List Rq} {m : Ms} (h : Pdu ms k L) (hm : ms[k]? = some m) (h0 : (decR m).2 = 0) : Pdu ms (k + 1) (L ++ [(decR m).1]) := by
  unfold Pdu at *
  rw [h, drop_at hm]
  have e : parF (m :: ms.drop (k + 1)) = ((decR m).1 :: (parF (ms.drop (k + 1))).1, (parF (ms.drop (k + 1))).2) := by rw [parF, if_pos h0]
  rw [e]; simp
theorem Pdu.bad {ms : List Ms} {k : Nat} {L : List Rq} {m : Ms} (h : Pdu ms k L) (hm : ms[k]? = some m) (h0 : (decR m).2 ≠ 0) : parF ms = (L, (decR m).2) := by
  unfold Pdu at *
  rw [h, drop_at hm]
  have e : parF (m :: ms.drop (k + 1)) = ([], (decR m).2) := by rw [parF, if_neg h0]
  rw [e]; simp
theorem Pdu.all {ms : List Ms} {k : Nat} {L : List Rq} (h : Pdu ms k L) (hk : ms.length ≤ k) : parF ms = (L, 0) := by
  unfold Pdu at *
  rw [h, List.drop_eq_nil_of_le hk]
  simp [parF]
theorem gv_nil (c : UInt8) : (gv c []).b = [] := by
  unfold gv
  repeat' split
  all_goals rfl
theorem unA_nil : ∀ (f : List UInt8) (X : List Av), (∀ v ∈ X, v.b = []) → ∀ v ∈ (unA X f []).1, v.b = []
  | [], X, h => by
    unfold unA
    split
    · exact h
    · intro v hv; simp at hv
  | c :: f, X, h => by
    unfold unA
    split
    · intro v hv; simp at hv
    · rw [List.drop_nil]
      refine unA_nil f _ fun v hv => ?_
      rcases List.mem_append.1 hv with hv | hv
      · exact h v hv
      · simp at hv; subst hv; exact gv_nil c
theorem setL_nil : ∀ (l : List Av) (r : Rq) (i : Nat), r.d = [] → (∀ v ∈ l, v.b = []) → (setL r i l).d = []
  | [], r, i, h, _ => h
  | v :: l, r, i, h, hl => setL_nil l _ _ (by
      unfold setA
      repeat' split
      all_goals first | exact h | exact hl v (by simp)) fun u hu => hl u (by simp [hu])
theorem dec_nil {m : Ms} (h : m.body = []) : (decR m).1.d = [] := by
  unfold decR
  rw [h]
  split
  · unfold decU
    split
    · split
      · refine setL_nil _ _ _ rfl ?_
        unfold unR
        split
        · exact unA_nil _ [] fun v hv => by simp at hv
        · intro v hv; simp at hv
      · rfl
    · rfl
  · rfl
/-- Requests that were read. -/
def ParQ (w : World) (p : List Rq × Int) (x : Ending) (w' : World) : Prop := ∃ A c X, x = .returned (.tuple #[.slice A p.1.length c, .int .i64 p.2]) ∧ X.map Prod.fst = p.1 ∧ Pv w' A X ∧ Bl w w'

end Go.Proofs.YthkbenhlhldglaaDoor
namespace Go.Proofs.YthkbenhlhldglaaDoor
open Go.RowKit Go.Sort

set_option maxRecDepth 100000 in
set_option maxHeartbeats 4000000 in
theorem rsplit1 (A : Option Addr) (c : Nat) (L : List Int) (w : World) (hA : RwB w A L) (hc : L.length ≤ c) (hcm : c ≤ maxLen) (hb : ByL L) (hl : L.length ≤ 1000000) :
    Calls Tryd.prog 58 #[.slice A L.length c] w (SpQ w L (fun k => A.map (·.block) = some k)) := by
  have cr := fun (b off k : Nat) (V : World) (hr : RowB V b (off + k) (L.drop k)) => rread1 (some ⟨b, off + k, none⟩) (c - k) (L.drop k) V (.inr ⟨b, off + k, rfl, hr⟩) (by rw [List.length_drop]; omega) (by omega) (hb.drop k)
  have hlt : L.length ≠ 0 → ∃ b, A.map (·.block) = some b ∧ b < w.heap.size := fun h => by
    obtain ⟨b, off, rfl, hr⟩ := hA.opened (by omega)
    exact ⟨b, rfl, hr.lt (by omega)⟩
  have hdl := fun k => List.length_drop (l := L) (i := k)
  obtain ⟨n, hn⟩ : ∃ n, n = L.length := ⟨_, rfl⟩
  rw [← hn] at hc hl hlt ⊢
  simp only [← hn] at hdl
  simp only [hdl] at cr
  replace hcm := Lib.hid hcm
  replace hdl := Lib.hid hdl
  replace cr := Lib.hid cr
  replace hn := Lib.hid hn
  replace hlt := Lib.hid hlt
  clear hb
  go_enter Tryd.func58, Tryd.ntmps58
  go_wp2
  go_loopw [5, 6] (fun o i wr => ∃ (k : Nat) (A2 : Option Addr) (c2 : Nat) (X : List (Ms × Value)), k ≤ n ∧ o = .slice A2 X.length c2 ∧ i = .int .i64 k ∧ OwM wr w.heap.size A2 c2 X ∧ Hid (Upt L k X) ∧ Hid (∀ p ∈ X, p.1.body = [] ∨ ∃ k, p.2.ownBlock = some k ∧ A.map (·.block) = some k) ∧ Bl w wr) (fun _ i _ => n - (intOf i).toNat)
  case atStart => exact ⟨0, none, 0, [], Nat.zero_le _, rfl, rfl, OwM.nil _ _, Lib.hid (Upt.zero L), Lib.hid (by intro p hp; simp at hp), Bl.refl _⟩
  case round =>
    obtain ⟨k, A2, c2, X, hk, rfl, rfl, own, hup, hD, G⟩ := hrel
    have hX : X.length ≤ 1000000 := by have := hup.out.len; rw [← hn.out] at this; omega
    by_cases hlt2 : k < n
    · have q1 : (k : Int) < n := by omega
      have q3 : ¬ c = k := by omega
      have q4 : ¬ c ≤ k := by omega
      obtain ⟨b, off, rfl, hr⟩ := (hA.bl G).opened (by rw [← hn.out]; omega)
      have crk := cr.out b off k wr (hr.drop k)
      have hup1 := fun h v => hup.out.step (k := k) h v
      have hup2 := fun h => hup.out.bad (by rw [← hn.out]; exact hlt2) h
      have hrn := fun h => rdN_ok (b := L.drop k) h
      have hE3 : rdE (L.drop k) = 0 ∨ rdE (L.drop k) = 3 ∨ rdE (L.drop k) = 2 := rd_three (L.drop k)
      replace hE3 := Lib.hid hE3
      simp only [hdl.out] at hrn
      replace hup1 := Lib.hid hup1
      replace hup2 := Lib.hid hup2
      replace hrn := Lib.hid hrn
      obtain ⟨m, hm⟩ : ∃ m, m = rdM (L.drop k) := ⟨_, rfl⟩
      obtain ⟨N, hN⟩ : ∃ N, N = rdN (L.drop k) := ⟨_, rfl⟩
      obtain ⟨E, hE⟩ : ∃ E, E = rdE (L.drop k) := ⟨_, rfl⟩
      unfold RdQ at crk
      rw [← hm, ← hN, ← hE] at crk
      rw [← hm, ← hN, ← hE] at hup1
      rw [← hE] at hup2 hE3
      rw [← hN, ← hE] at hrn
      clear hm hN hE cr hr
      go_wp2_with fail
      refine crk.mono ?_
      rintro e w1 ⟨v, rfl, sv, fr, g1⟩
      have G1 := G.trans g1
      have own1 := own.bl g1
      have hf : m.body = [] ∨ A2 = none ∨ v.ownBlock ≠ A2.map (·.block) := by
        rcases fr with fr | ⟨kk, fr, fk⟩
        · exact .inl fr
        · rcases own.lies with h | ⟨gg, h, h1, h2⟩
          · exact .inr (.inl h)
          · right; right
            rw [fr, h]
            intro e
            have e' : kk = gg := by simpa using e
            have h9 := hlt.out (by omega)
            obtain ⟨b9, e9, l9⟩ := h9
            have h8 : b9 = kk := by simpa using e9.symm.trans fk
            omega
      have fD : m.body = [] ∨ ∃ k, v.ownBlock = some k ∧ (some (⟨b, off, none⟩ : Addr)).map (·.block) = some k := by
        rcases fr with fr | ⟨kk, fr, fk⟩
        · exact .inl fr
        · exact .inr ⟨kk, fr, fk⟩
      have sv9 := sv
      obtain ⟨Av, cv, hv, _⟩ := sv9
      subst hv
      have h3 := hE3.out
      rcases h3 with rfl | rfl | rfl
      · have hN := hrn.out rfl
        obtain ⟨hN1, hN2, hN3, hN4⟩ := hN
        clear hN4
        have hstep := Lib.hid (hup1.out rfl (.slice Av m.body.length cv))
        obtain ⟨mo, mi, mb⟩ := m
        dsimp only at *
        have sv2 := (sv.bl ((Bl.refl w1).alloc (.cells #[.int .i64 mo, .int .i64 mi, .slice Av mb.length cv] 24))).bl ((Bl.refl _).alloc (.cells #[.int .i64 mo, .int .i64 mi, .slice Av mb.length cv] 24))
        have own2 := (own1.bl ((Bl.refl w1).alloc (.cells #[.int .i64 mo, .int .i64 mi, .slice Av mb.length cv] 24))).bl ((Bl.refl _).alloc (.cells #[.int .i64 mo, .int .i64 mi, .slice Av mb.length cv] 24))
        have G2 : Bl w ((w1.alloc (.cells #[.int .i64 mo, .int .i64 mi, .slice Av mb.length cv] 24)).alloc (.cells #[.int .i64 mo, .int .i64 mi, .slice Av mb.length cv] 24)) := (G1.alloc _).alloc _
        have bb := At.newAt (w := w1.alloc (.cells #[.int .i64 mo, .int .i64 mi, .slice Av mb.length cv] 24)) (n := w1.heap.size + 1) (by simp) #[.int .i64 mo, .int .i64 mi, .slice Av mb.length cv] 24
        have mv := Mv.one (m := ⟨mo, mi, mb⟩) bb sv2
        have kN : (k : Int) + (N : Int) ≤ 1000000 := by omega
        go_wp2_with (at_builtin; refine wp_app_m rfl (.tmp 27) (.tmp 29) rfl A2 c2 X rfl w.heap.size own2 (some ⟨w1.heap.size + 1, 0, none⟩) [(⟨mo, mi, mb⟩, .slice Av mb.length cv)] 1 rfl (by simp) mv (by intro p hp; simp at hp; subst hp; exact hf) (by simp; omega) G2.size ?_; intro A3 c3 w3 own3 by3 _; have G3 := app_bl by3 G2 own2.lies (Nat.le_refl _))
        go_roundw
        case rel =>
          refine ⟨k + N, A3, c3, X ++ [(⟨mo, mi, mb⟩, .slice Av mb.length cv)], by omega, by simp, by simp, own3, hstep, Lib.hid ?_, G3⟩
          intro p hp
          rcases List.mem_append.1 hp with hp | hp
          · exact hD.out p hp
          · simp at hp; subst hp; exact fD
        case measure => simp [intOf]; omega
      · have hb2 := hup2.out (by decide)
        have ex : ∀ V, Bl w1 V → SpQ w L (fun k => (some (⟨b, off, none⟩ : Addr)).map (·.block) = some k) (.returned (.tuple #[.slice A2 X.length c2, .int .i64 (k : Nat), .int .i64 3])) V := fun V gV => ⟨A2, c2, X, by rw [hb2], by rw [hb2], (own1.bl gV).mv, (own_caps own.1).2.2, own.low, hD.out, G1.trans gV⟩
        replace ex := Lib.hid ex
        go_wp2
        go_ret3
        exact ex.out _ ((Bl.refl w1).alloc _)
      · have hb2 := hup2.out (by decide)
        have ex : ∀ V, Bl w1 V → SpQ w L (fun k => (some (⟨b, off, none⟩ : Addr)).map (·.block) = some k) (.returned (.tuple #[.slice A2 X.length c2, .int .i64 (k : Nat), .int .i64 2])) V := fun V gV => ⟨A2, c2, X, by rw [hb2], by rw [hb2], (own1.bl gV).mv, (own_caps own.1).2.2, own.low, hD.out, G1.trans gV⟩
        replace ex := Lib.hid ex
        go_wp2
        go_ret3
        exact ex.out _ ((Bl.refl w1).alloc _)
    · obtain rfl : k = n := by omega
      have ha : spl L = (X.map Prod.fst, k, 0) := by
        have := hup.out
        rw [hn.out] at this ⊢
        exact this.all
      have ex : SpQ w L (fun k => A.map (·.block) = some k) (.returned (.tuple #[.slice A2 X.length c2, .int .i64 (k : Nat), .int .i64 0])) wr := ⟨A2, c2, X, by rw [ha], by rw [ha], own.mv, (own_caps own.1).2.2, own.low, hD.out, G⟩
      replace ex := Lib.hid ex
      clear ha hup
      go_wp2
      go_ret3
      exact ex.out

end Go.Proofs.YthkbenhlhldglaaDoor
namespace Go.Proofs.YthkbenhlhldglaaDoor
open Go.RowKit Go.Sort

set_option maxRecDepth 100000 in
set_option maxHeartbeats 4000000 in
theorem fsplit1 (A : Option Addr) (c : Nat) (L : List Int) (w : World) (hA : RwB w A L) (hc : L.length ≤ c) (hcm : c ≤ maxLen) (hb : ByL L) (hl : L.length ≤ 1000000) :
    Calls Tryd.prog 57 #[.slice A L.length c] w (SpQ w L (fun k => w.heap.size ≤ k)) := by
  have cr := fun (b off k : Nat) (V : World) (hr : RowB V b (off + k) (L.drop k)) => fread1 (some ⟨b, off + k, none⟩) (c - k) (L.drop k) V (.inr ⟨b, off + k, rfl, hr⟩) (by rw [List.length_drop]; omega) (by omega) (hb.drop k)
  have hlt : L.length ≠ 0 → ∃ b, A.map (·.block) = some b ∧ b < w.heap.size := fun h => by
    obtain ⟨b, off, rfl, hr⟩ := hA.opened (by omega)
    exact ⟨b, rfl, hr.lt (by omega)⟩
  have hdl := fun k => List.length_drop (l := L) (i := k)
  obtain ⟨n, hn⟩ : ∃ n, n = L.length := ⟨_, rfl⟩
  rw [← hn] at hc hl hlt ⊢
  simp only [← hn] at hdl
  simp only [hdl] at cr
  replace hcm := Lib.hid hcm
  replace hdl := Lib.hid hdl
  replace cr := Lib.hid cr
  replace hn := Lib.hid hn
  replace hlt := Lib.hid hlt
  clear hb
  go_enter Tryd.func57, Tryd.ntmps57
  go_wp2
  go_step3
  go_wp2
  go_step3
  go_wp2
  go_loopw [5, 6, 7] (fun o i e7 wr => ∃ (k : Nat) (A2 : Option Addr) (c2 : Nat) (X : List (Ms × Value)), k ≤ n ∧ o = .slice A2 X.length c2 ∧ i = .int .i64 k ∧ e7 = .int .i64 0 ∧ OwM wr w.heap.size A2 c2 X ∧ Hid (Upt L k X) ∧ Hid (∀ p ∈ X, p.1.body = [] ∨ ∃ k, p.2.ownBlock = some k ∧ w.heap.size ≤ k) ∧ Bl w wr) (fun _ i _ _ => n - (intOf i).toNat)
  case atStart => exact ⟨0, none, 0, [], Nat.zero_le _, rfl, rfl, rfl, OwM.nil _ _, Lib.hid (Upt.zero L), Lib.hid (by intro p hp; simp at hp), Bl.refl _⟩
  case round =>
    obtain ⟨k, A2, c2, X, hk, rfl, rfl, rfl, own, hup, hD, G⟩ := hrel
    have hX : X.length ≤ 1000000 := by have := hup.out.len; rw [← hn.out] at this; omega
    by_cases hlt2 : k < n
    · have q1 : (k : Int) < n := by omega
      have q3 : ¬ c = k := by omega
      have q4 : ¬ c ≤ k := by omega
      obtain ⟨b, off, rfl, hr⟩ := (hA.bl G).opened (by rw [← hn.out]; omega)
      have crk := cr.out b off k wr (hr.drop k)
      have hup1 := fun h v => hup.out.step (k := k) h v
      have hup2 := fun h => hup.out.bad (by rw [← hn.out]; exact hlt2) h
      have hrn := fun h => rdN_ok (b := L.drop k) h
      have hE3 : rdE (L.drop k) = 0 ∨ rdE (L.drop k) = 3 ∨ rdE (L.drop k) = 2 := rd_three (L.drop k)
      replace hE3 := Lib.hid hE3
      simp only [hdl.out] at hrn
      replace hup1 := Lib.hid hup1
      replace hup2 := Lib.hid hup2
      replace hrn := Lib.hid hrn
      obtain ⟨m, hm⟩ : ∃ m, m = rdM (L.drop k) := ⟨_, rfl⟩
      obtain ⟨N, hN⟩ : ∃ N, N = rdN (L.drop k) := ⟨_, rfl⟩
      obtain ⟨E, hE⟩ : ∃ E, E = rdE (L.drop k) := ⟨_, rfl⟩
      unfold RdQ at crk
      rw [← hm, ← hN, ← hE] at crk
      rw [← hm, ← hN, ← hE] at hup1
      rw [← hE] at hup2 hE3
      rw [← hN, ← hE] at hrn
      clear hm hN hE cr hr
      go_wp2_with fail
      refine crk.mono ?_
      rintro e w1 ⟨v, rfl, sv, fr, g1⟩
      have G1 := G.trans g1
      have own1 := own.bl g1
      have hf : m.body = [] ∨ A2 = none ∨ v.ownBlock ≠ A2.map (·.block) := by
        rcases fr with fr | ⟨kk, fr, fk⟩
        · exact .inl fr
        · rcases own.lies with h | ⟨gg, h, h1, h2⟩
          · exact .inr (.inl h)
          · right; right
            rw [fr, h]
            intro e
            have e' : kk = gg := by simpa using e
            omega
      have fD : m.body = [] ∨ ∃ k, v.ownBlock = some k ∧ w.heap.size ≤ k := by
        rcases fr with fr | ⟨kk, fr, fk⟩
        · exact .inl fr
        · exact .inr ⟨kk, fr, Nat.le_trans G.size fk⟩
      have sv9 := sv
      obtain ⟨Av, cv, hv, _⟩ := sv9
      subst hv
      have h3 := hE3.out
      rcases h3 with rfl | rfl | rfl
      · have hN := hrn.out rfl
        obtain ⟨hN1, hN2, hN3, hN4⟩ := hN
        clear hN4
        have hstep := Lib.hid (hup1.out rfl (.slice Av m.body.length cv))
        obtain ⟨mo, mi, mb⟩ := m
        dsimp only at *
        have sv2 := (sv.bl ((Bl.refl w1).alloc (.cells #[.int .i64 mo, .int .i64 mi, .slice Av mb.length cv] 24))).bl ((Bl.refl _).alloc (.cells #[.int .i64 mo, .int .i64 mi, .slice Av mb.length cv] 24))
        have own2 := (own1.bl ((Bl.refl w1).alloc (.cells #[.int .i64 mo, .int .i64 mi, .slice Av mb.length cv] 24))).bl ((Bl.refl _).alloc (.cells #[.int .i64 mo, .int .i64 mi, .slice Av mb.length cv] 24))
        have G2 : Bl w ((w1.alloc (.cells #[.int .i64 mo, .int .i64 mi, .slice Av mb.length cv] 24)).alloc (.cells #[.int .i64 mo, .int .i64 mi, .slice Av mb.length cv] 24)) := (G1.alloc _).alloc _
        have bb := At.newAt (w := w1.alloc (.cells #[.int .i64 mo, .int .i64 mi, .slice Av mb.length cv] 24)) (n := w1.heap.size + 1) (by simp) #[.int .i64 mo, .int .i64 mi, .slice Av mb.length cv] 24
        have mv := Mv.one (m := ⟨mo, mi, mb⟩) bb sv2
        have kN : (k : Int) + (N : Int) ≤ 1000000 := by omega
        go_wp2_with (at_builtin; refine wp_app_m rfl (.tmp 27) (.tmp 29) rfl A2 c2 X rfl w.heap.size own2 (some ⟨w1.heap.size + 1, 0, none⟩) [(⟨mo, mi, mb⟩, .slice Av mb.length cv)] 1 rfl (by simp) mv (by intro p hp; simp at hp; subst hp; exact hf) (by simp; omega) G2.size ?_; intro A3 c3 w3 own3 by3 _; have G3 := app_bl by3 G2 own2.lies (Nat.le_refl _))
        go_roundw
        case rel =>
          refine ⟨k + N, A3, c3, X ++ [(⟨mo, mi, mb⟩, .slice Av mb.length cv)], by omega, by simp, by simp, rfl, own3, hstep, Lib.hid ?_, G3⟩
          intro p hp
          rcases List.mem_append.1 hp with hp | hp
          · exact hD.out p hp
          · simp at hp; subst hp; exact fD
        case measure => simp [intOf]; omega
      · have hb2 := hup2.out (by decide)
        have ex : ∀ V, Bl w1 V → SpQ w L (fun k => w.heap.size ≤ k) (.returned (.tuple #[.slice A2 X.length c2, .int .i64 (k : Nat), .int .i64 3])) V := fun V gV => ⟨A2, c2, X, by rw [hb2], by rw [hb2], (own1.bl gV).mv, (own_caps own.1).2.2, own.low, hD.out, G1.trans gV⟩
        replace ex := Lib.hid ex
        go_wp2
        go_ret3
        exact ex.out _ ((Bl.refl w1).alloc _)
      · have hb2 := hup2.out (by decide)
        have ex : ∀ V, Bl w1 V → SpQ w L (fun k => w.heap.size ≤ k) (.returned (.tuple #[.slice A2 X.length c2, .int .i64 (k : Nat), .int .i64 2])) V := fun V gV => ⟨A2, c2, X, by rw [hb2], by rw [hb2], (own1.bl gV).mv, (own_caps own.1).2.2, own.low, hD.out, G1.trans gV⟩
        replace ex := Lib.hid ex
        go_wp2
        go_ret3
        exact ex.out _ ((Bl.refl w1).alloc _)
    · obtain rfl : k = n := by omega
      have ha : spl L = (X.map Prod.fst, k, 0) := by
        have := hup.out
        rw [hn.out] at this ⊢
        exact this.all
      have ex : SpQ w L (fun k => w.heap.size ≤ k) (.returned (.tuple #[.slice A2 X.length c2, .int .i64 (k : Nat), .int .i64 0])) wr := ⟨A2, c2, X, by rw [ha], by rw [ha], own.mv, (own_caps own.1).2.2, own.low, hD.out, G⟩
      replace ex := Lib.hid ex
      clear ha hup
      go_wp2
      go_ret3
      exact ex.out

end Go.Proofs.YthkbenhlhldglaaDoor
namespace Go.Proofs.YthkbenhlhldglaaDoor
open Go.RowKit Go.Sort

theorem rdM_inQ {b : List Int} (h : ByL b) : ByL (rdM b).body ∧ (rdM b).body.length ≤ 1000000 := by
  unfold rdM
  split
  · rename_i h0
    have h1 := rd_ok.1 h0
    refine ⟨(h.take _).drop 7, ?_⟩
    show ((b.take (hdN b).toNat).drop 7).length ≤ 1000000
    rw [List.length_drop, List.length_take]
    omega
  · exact ⟨ByL.nil, by simp⟩
theorem spl_inQ : ∀ (k : Nat) (b : List Int), b.length ≤ k → ByL b → ∀ m ∈ (spl b).1, ByL m.body ∧ m.body.length ≤ 1000000
  | k, b, hk, hb, m, hm => by
    by_cases h0 : b = []
    · subst h0; rw [spl_nil] at hm; simp at hm
    · by_cases h : rdE b = 0
      · have h1 := rdN_ok h
        obtain ⟨k', rfl⟩ : ∃ k', k = k' + 1 := ⟨k - 1, by omega⟩
        rw [spl_ok h] at hm
        rcases List.mem_cons.1 (show m ∈ rdM b :: (spl (b.drop (rdN b))).1 from hm) with rfl | hm
        · exact rdM_inQ hb
        · exact spl_inQ k' (b.drop (rdN b)) (by rw [List.length_drop]; omega) (hb.drop _) m hm
      · rw [spl_bad h0 h] at hm; simp at hm
set_option maxRecDepth 100000 in
set_option maxHeartbeats 2000000 in
theorem qparse1 (A0 : Option Addr) (c0 : Nat) (B : List Int) (w : World) (hA : RwB w A0 B) (hc : B.length ≤ c0) (hcm : c0 ≤ maxLen) (hb : ByL B) (hl : B.length ≤ 1000000) : Calls Tryd.prog 25 #[.slice A0 B.length c0] w (ParQ w (parR B)) := by
  have cs := fsplit1 A0 c0 B w hA hc hcm hb hl
  have hin := spl_inQ B.length B (Nat.le_refl _) hb
  have hfew := spl_few B
  unfold SpQ at cs
  have hrd : parR B = ((parF (spl B).1).1, if (parF (spl B).1).2 = 0 then (spl B).2.2 else (parF (spl B).1).2) := rfl
  generalize parR B = RR at *
  generalize (spl B).1 = ms at *
  generalize (spl B).2.1 = used at *
  generalize (spl B).2.2 = ee at *
  generalize B.length = n0 at *
  have zn : ∀ k m, ms[k]? = some m → ∀ (X : List (Rq × Value)), Pdu ms k (X.map Prod.fst) → (decR m).2 ≠ 0 → ∀ A c V, Pv V A X → Bl w V → ParQ w RR (.returned (.tuple #[.slice A X.length c, .int .i64 (decR m).2])) V := fun k m hm X hu h0 A c V hX g => by
    rw [hrd, hu.bad hm h0]
    dsimp only
    rw [if_neg h0]
    exact ⟨A, c, X, by rw [List.length_map], rfl, hX, g⟩
  have ze : ∀ k (X : List (Rq × Value)), Pdu ms k (X.map Prod.fst) → ms.length ≤ k → ∀ A c V, Pv V A X → Bl w V → ParQ w RR (.returned (.tuple #[.slice A X.length c, .int .i64 ee])) V := fun k X hu hk A c V hX g => by
    rw [hrd, hu.all hk]
    dsimp only
    rw [if_pos rfl]
    exact ⟨A, c, X, by rw [List.length_map], rfl, hX, g⟩
  generalize ParQ w RR = Z at *
  replace hin := Lib.hid hin
  clear hrd hA hc hcm hb
  go_enter Tryd.func25, Tryd.ntmps25
  go_wp2_with fail
  refine cs.mono ?_
  rintro e w1 ⟨A1, c1, X1, rfl, hX, hM, _, _, _, g1⟩
  obtain ⟨n, hn⟩ : ∃ n, n = X1.length := ⟨_, rfl⟩
  have hnm : n = ms.length := by rw [hn, ← hX, List.length_map]
  rw [← hn]
  have hnl : n ≤ 1000000 := by omega
  replace hn := Lib.hid hn
  replace hnm := Lib.hid hnm
  replace hX := Lib.hid hX
  replace zn := Lib.hid zn
  replace ze := Lib.hid ze
  clear cs hfew
  go_wp2
  go_loopw [7, 20] (fun o i wr => ∃ (k : Nat) (A : Option Addr) (c : Nat) (L : List (Rq × Value)), k ≤ n ∧ o = .slice A L.length c ∧ i = .int .i64 ((k : Nat) : Int) ∧ OwQ 36 wr w1.heap.size A c L ∧ Bl w1 wr ∧ Hid (Pdu ms k (L.map Prod.fst)) ∧ Hid (L.length = k)) (fun _ i _ => n - (intOf i).toNat)
  case atStart => exact ⟨0, none, 0, [], Nat.zero_le _, rfl, rfl, OwQ.nil _ _ _, Bl.refl _, Lib.hid (Pdu.zero ms), Lib.hid rfl⟩
  case round =>
    obtain ⟨k, A, c, L, hk, rfl, rfl, own, G, hu, hLk⟩ := hrel
    have hLl : L.length ≤ 1000000 := by have := hLk.out; omega
    by_cases hlt : k < n
    · have q1 : (k : Int) < n := by omega
      obtain ⟨b, off, p, rfl, hp, x0, x1, x2, sv1⟩ := hM.at (k := k) (by rw [← hn.out]; exact hlt)
      replace x0 := G.keep x0
      replace x1 := G.keep x1
      replace x2 := G.keep x2
      have hm : ms[k]? = some p.1 := by rw [← hX.out, List.getElem?_map, hp]; rfl
      obtain ⟨hi1, hi2⟩ := hin.out p.1 (List.mem_of_getElem? hm)
      obtain ⟨⟨op, id, body⟩, v⟩ := p
      dsimp only at *
      have hlw := fun (k : Nat) h1 h2 => sv1.lt (k := k) h1 h2
      obtain ⟨A5, c5, rfl, u1, u2, u3, u4⟩ := sv1
      have cd := fun V (g : Bl wr V) => dec1 ⟨op, id, body⟩ A5 c5 V ((u4.bl G).bl g) u1 u2 u3 hi1 hi2
      have hdn := fun h => dec_nil (m := ⟨op, id, body⟩) h
      unfold DecQ vQ at cd
      have zn' := Lib.hid (zn.out k _ hm L hu.out)
      have hst := Lib.hid (fun h => hu.out.step hm h)
      generalize decR ⟨op, id, body⟩ = D at *
      obtain ⟨q, E⟩ := D
      dsimp only at *
      have hbn : body = [] → body.length = 0 := fun h => by rw [h]; rfl
      clear hbn
      generalize hnb : body.length = nb at *
      replace hnb := Lib.hid hnb
      replace cd := Lib.hid cd
      replace hdn := Lib.hid hdn
      replace hlw := Lib.hid hlw
      clear u1 u2 u3 u4 hi1 hi2 hm hp
      go_wp2_with fail
      refine (cd.out _ ((Bl.refl wr).alloc (.cells #[.int .i64 op, .int .i64 id, .slice A5 nb c5] 24))).mono ?_
      rintro e w2 ⟨d2, rfl, i2, g2⟩
      have H2 := ((Bl.refl wr).alloc (.cells #[.int .i64 op, .int .i64 id, .slice A5 nb c5] 24)).trans g2
      have s2 := i2.sv
      have dd := i2.dd
      obtain ⟨B2, k2, rfl, _⟩ := i2.sv
      have hf : q.d = [] ∨ A = none ∨ Value.ownBlock (.slice B2 q.d.length k2) ≠ A.map (·.block) := by
        rcases dd with h | h
        · exact .inl h
        · rcases own.lies with h' | ⟨gg, h', _, h2⟩
          · exact .inr (.inl h')
          · refine .inr (.inr fun e => ?_)
            rw [h'] at e
            have := h gg e
            simp at this
            omega
      obtain ⟨nq, hnq⟩ : ∃ nq, nq = q.d.length := ⟨_, rfl⟩
      rw [← hnq] at s2 hf ⊢
      replace hnq := Lib.hid hnq
      replace hf := Lib.hid hf
      replace s2 := Lib.hid s2
      clear cd x0 x1 x2 i2 dd hlw hdn
      have H3 := H2.alloc (.cells #[.int .i64 q.op, .int .i64 q.id, .int .i64 q.a, .int .i64 q.b, .int .i64 q.x0, .int .i64 q.y0, .int .i64 q.x1, .int .i64 q.y1, .string q.s, .slice B2 nq k2] 36)
      have own3 := own.bl H3
      by_cases h0 : E = 0
      · subst h0
        have hs1 := Lib.hid (hst.out rfl)
        have E3 := At.new w2 #[.int .i64 q.op, .int .i64 q.id, .int .i64 q.a, .int .i64 q.b, .int .i64 q.x0, .int .i64 q.y0, .int .i64 q.x1, .int .i64 q.y1, .string q.s, .slice B2 nq k2] 36
        have E4 := At.newAt (w := w2.alloc (.cells #[.int .i64 q.op, .int .i64 q.id, .int .i64 q.a, .int .i64 q.b, .int .i64 q.x0, .int .i64 q.y0, .int .i64 q.x1, .int .i64 q.y1, .string q.s, .slice B2 nq k2] 36)) (n := w2.heap.size + 1) (by simp) #[.int .i64 q.op, .int .i64 q.id, .int .i64 q.a, .int .i64 q.b, .int .i64 q.x0, .int .i64 q.y0, .int .i64 q.x1, .int .i64 q.y1, .string q.s, .slice B2 nq k2] 36
        have own4 := own3.bl ((Bl.refl _).alloc (.cells #[.int .i64 q.op, .int .i64 q.id, .int .i64 q.a, .int .i64 q.b, .int .i64 q.x0, .int .i64 q.y0, .int .i64 q.x1, .int .i64 q.y1, .string q.s, .slice B2 nq k2] 36))
        have G4 := (G.trans H3).alloc (.cells #[.int .i64 q.op, .int .i64 q.id, .int .i64 q.a, .int .i64 q.b, .int .i64 q.x0, .int .i64 q.y0, .int .i64 q.x1, .int .i64 q.y1, .string q.s, .slice B2 nq k2] 36)
        have s4 := (s2.out.bl ((Bl.refl w2).alloc (.cells #[.int .i64 q.op, .int .i64 q.id, .int .i64 q.a, .int .i64 q.b, .int .i64 q.x0, .int .i64 q.y0, .int .i64 q.x1, .int .i64 q.y1, .string q.s, .slice B2 nq k2] 36))).bl ((Bl.refl _).alloc (.cells #[.int .i64 q.op, .int .i64 q.id, .int .i64 q.a, .int .i64 q.b, .int .i64 q.x0, .int .i64 q.y0, .int .i64 q.x1, .int .i64 q.y1, .string q.s, .slice B2 nq k2] 36))
        have kk0 : ((w2.alloc (.cells #[.int .i64 q.op, .int .i64 q.id, .int .i64 q.a, .int .i64 q.b, .int .i64 q.x0, .int .i64 q.y0, .int .i64 q.x1, .int .i64 q.y1, .string q.s, .slice B2 nq k2] 36))).cell? ⟨w2.heap.size, 0, none⟩ = some (.int .i64 q.op) := (E3.cell 0).trans rfl
        have kk1 : ((w2.alloc (.cells #[.int .i64 q.op, .int .i64 q.id, .int .i64 q.a, .int .i64 q.b, .int .i64 q.x0, .int .i64 q.y0, .int .i64 q.x1, .int .i64 q.y1, .string q.s, .slice B2 nq k2] 36))).cell? ⟨w2.heap.size, 1, none⟩ = some (.int .i64 q.id) := (E3.cell 1).trans rfl
        have kk2 : ((w2.alloc (.cells #[.int .i64 q.op, .int .i64 q.id, .int .i64 q.a, .int .i64 q.b, .int .i64 q.x0, .int .i64 q.y0, .int .i64 q.x1, .int .i64 q.y1, .string q.s, .slice B2 nq k2] 36))).cell? ⟨w2.heap.size, 2, none⟩ = some (.int .i64 q.a) := (E3.cell 2).trans rfl
        have kk3 : ((w2.alloc (.cells #[.int .i64 q.op, .int .i64 q.id, .int .i64 q.a, .int .i64 q.b, .int .i64 q.x0, .int .i64 q.y0, .int .i64 q.x1, .int .i64 q.y1, .string q.s, .slice B2 nq k2] 36))).cell? ⟨w2.heap.size, 3, none⟩ = some (.int .i64 q.b) := (E3.cell 3).trans rfl
        have kk4 : ((w2.alloc (.cells #[.int .i64 q.op, .int .i64 q.id, .int .i64 q.a, .int .i64 q.b, .int .i64 q.x0, .int .i64 q.y0, .int .i64 q.x1, .int .i64 q.y1, .string q.s, .slice B2 nq k2] 36))).cell? ⟨w2.heap.size, 4, none⟩ = some (.int .i64 q.x0) := (E3.cell 4).trans rfl
        have kk5 : ((w2.alloc (.cells #[.int .i64 q.op, .int .i64 q.id, .int .i64 q.a, .int .i64 q.b, .int .i64 q.x0, .int .i64 q.y0, .int .i64 q.x1, .int .i64 q.y1, .string q.s, .slice B2 nq k2] 36))).cell? ⟨w2.heap.size, 5, none⟩ = some (.int .i64 q.y0) := (E3.cell 5).trans rfl
        have kk6 : ((w2.alloc (.cells #[.int .i64 q.op, .int .i64 q.id, .int .i64 q.a, .int .i64 q.b, .int .i64 q.x0, .int .i64 q.y0, .int .i64 q.x1, .int .i64 q.y1, .string q.s, .slice B2 nq k2] 36))).cell? ⟨w2.heap.size, 6, none⟩ = some (.int .i64 q.x1) := (E3.cell 6).trans rfl
        have kk7 : ((w2.alloc (.cells #[.int .i64 q.op, .int .i64 q.id, .int .i64 q.a, .int .i64 q.b, .int .i64 q.x0, .int .i64 q.y0, .int .i64 q.x1, .int .i64 q.y1, .string q.s, .slice B2 nq k2] 36))).cell? ⟨w2.heap.size, 7, none⟩ = some (.int .i64 q.y1) := (E3.cell 7).trans rfl
        have kk8 : ((w2.alloc (.cells #[.int .i64 q.op, .int .i64 q.id, .int .i64 q.a, .int .i64 q.b, .int .i64 q.x0, .int .i64 q.y0, .int .i64 q.x1, .int .i64 q.y1, .string q.s, .slice B2 nq k2] 36))).cell? ⟨w2.heap.size, 8, none⟩ = some (.string q.s) := (E3.cell 8).trans rfl
        have kk9 : ((w2.alloc (.cells #[.int .i64 q.op, .int .i64 q.id, .int .i64 q.a, .int .i64 q.b, .int .i64 q.x0, .int .i64 q.y0, .int .i64 q.x1, .int .i64 q.y1, .string q.s, .slice B2 nq k2] 36))).cell? ⟨w2.heap.size, 9, none⟩ = some (.slice B2 nq k2) := (E3.cell 9).trans rfl
        clear zn' hst hM ze zn own own3 H3 H2 g2
        go_wp2_with (at_builtin; refine wp_app_q rfl (.tmp 33) (.tmp 35) rfl A c L rfl w1.heap.size own4 (w2.heap.size + 1) (q, .slice B2 nq k2) rfl E4 s4 hf.out (by omega) G4.size ?_; intro A2 c2 w4 own5 by2; have G5 := app_bl by2 G4 own4.lies (Nat.le_refl _))
        go_roundw
        case rel => exact ⟨k + 1, A2, c2, L ++ [(q, .slice B2 nq k2)], by omega, by simp, by go_num, own5, G5, by rw [List.map_append]; exact hs1, by have := hLk.out; exact Lib.hid (by simp; omega)⟩
        case measure => simp [intOf]; omega
      · have hne : (E == 0) = false := by simpa using h0
        have ex := Lib.hid (zn'.out h0 A c _ own3.pv (g1.trans (G.trans H3)))
        clear zn' hst hM ze zn own own3
        go_wp2
        exact ex.out
    · obtain rfl : k = n := by omega
      have q1 : ¬ (k : Int) < k := by omega
      have hkm : ms.length ≤ k := by rw [← hnm.out]; exact Nat.le_refl _
      have ex := Lib.hid (ze.out k L hu.out hkm A c _ own.pv (g1.trans G))
      clear ze zn hM own
      go_wp2
      exact ex.out
set_option maxRecDepth 100000 in
set_option maxHeartbeats 2000000 in
theorem rparse1 (A0 : Option Addr) (c0 : Nat) (B : List Int) (w : World) (hA : RwB w A0 B) (hc : B.length ≤ c0) (hcm : c0 ≤ maxLen) (hb : ByL B) (hl : B.length ≤ 1000000) : Calls Tryd.prog 26 #[.slice A0 B.length c0] w (ParQ w (parR B)) := by
  have cs := rsplit1 A0 c0 B w hA hc hcm hb hl
  have hin := spl_inQ B.length B (Nat.le_refl _) hb
  have hfew := spl_few B
  unfold SpQ at cs
  have hrd : parR B = ((parF (spl B).1).1, if (parF (spl B).1).2 = 0 then (spl B).2.2 else (parF (spl B).1).2) := rfl
  generalize parR B = RR at *
  generalize (spl B).1 = ms at *
  generalize (spl B).2.1 = used at *
  generalize (spl B).2.2 = ee at *
  generalize B.length = n0 at *
  have zn : ∀ k m, ms[k]? = some m → ∀ (X : List (Rq × Value)), Pdu ms k (X.map Prod.fst) → (decR m).2 ≠ 0 → ∀ A c V, Pv V A X → Bl w V → ParQ w RR (.returned (.tuple #[.slice A X.length c, .int .i64 (decR m).2])) V := fun k m hm X hu h0 A c V hX g => by
    rw [hrd, hu.bad hm h0]
    dsimp only
    rw [if_neg h0]
    exact ⟨A, c, X, by rw [List.length_map], rfl, hX, g⟩
  have ze : ∀ k (X : List (Rq × Value)), Pdu ms k (X.map Prod.fst) → ms.length ≤ k → ∀ A c V, Pv V A X → Bl w V → ParQ w RR (.returned (.tuple #[.slice A X.length c, .int .i64 ee])) V := fun k X hu hk A c V hX g => by
    rw [hrd, hu.all hk]
    dsimp only
    rw [if_pos rfl]
    exact ⟨A, c, X, by rw [List.length_map], rfl, hX, g⟩
  generalize ParQ w RR = Z at *
  replace hin := Lib.hid hin
  clear hrd hA hc hcm hb
  go_enter Tryd.func26, Tryd.ntmps26
  go_wp2_with fail
  refine cs.mono ?_
  rintro e w1 ⟨A1, c1, X1, rfl, hX, hM, _, _, _, g1⟩
  obtain ⟨n, hn⟩ : ∃ n, n = X1.length := ⟨_, rfl⟩
  have hnm : n = ms.length := by rw [hn, ← hX, List.length_map]
  rw [← hn]
  have hnl : n ≤ 1000000 := by omega
  replace hn := Lib.hid hn
  replace hnm := Lib.hid hnm
  replace hX := Lib.hid hX
  replace zn := Lib.hid zn
  replace ze := Lib.hid ze
  clear cs hfew
  go_wp2
  go_loopw [7, 8] (fun o i wr => ∃ (k : Nat) (A : Option Addr) (c : Nat) (L : List (Rq × Value)), k ≤ n ∧ o = .slice A L.length c ∧ i = .int .i64 ((k : Nat) : Int) ∧ OwQ 28 wr w1.heap.size A c L ∧ Bl w1 wr ∧ Hid (Pdu ms k (L.map Prod.fst)) ∧ Hid (L.length = k)) (fun _ i _ => n - (intOf i).toNat)
  case atStart => exact ⟨0, none, 0, [], Nat.zero_le _, rfl, rfl, OwQ.nil _ _ _, Bl.refl _, Lib.hid (Pdu.zero ms), Lib.hid rfl⟩
  case round =>
    obtain ⟨k, A, c, L, hk, rfl, rfl, own, G, hu, hLk⟩ := hrel
    have hLl : L.length ≤ 1000000 := by have := hLk.out; omega
    by_cases hlt : k < n
    · have q1 : (k : Int) < n := by omega
      obtain ⟨b, off, p, rfl, hp, x0, x1, x2, sv1⟩ := hM.at (k := k) (by rw [← hn.out]; exact hlt)
      replace x0 := G.keep x0
      replace x1 := G.keep x1
      replace x2 := G.keep x2
      have hm : ms[k]? = some p.1 := by rw [← hX.out, List.getElem?_map, hp]; rfl
      obtain ⟨hi1, hi2⟩ := hin.out p.1 (List.mem_of_getElem? hm)
      obtain ⟨⟨op, id, body⟩, v⟩ := p
      dsimp only at *
      have hlw := fun (k : Nat) h1 h2 => sv1.lt (k := k) h1 h2
      obtain ⟨A5, c5, rfl, u1, u2, u3, u4⟩ := sv1
      have cd := fun V (g : Bl wr V) => rdec1 ⟨op, id, body⟩ A5 c5 V ((u4.bl G).bl g) u1 u2 u3 hi1 hi2
      have hdn := fun h => dec_nil (m := ⟨op, id, body⟩) h
      unfold DecQ vQ at cd
      have zn' := Lib.hid (zn.out k _ hm L hu.out)
      have hst := Lib.hid (fun h => hu.out.step hm h)
      generalize decR ⟨op, id, body⟩ = D at *
      obtain ⟨q, E⟩ := D
      dsimp only at *
      have hbn : body = [] → body.length = 0 := fun h => by rw [h]; rfl
      clear hbn
      generalize hnb : body.length = nb at *
      replace hnb := Lib.hid hnb
      replace cd := Lib.hid cd
      replace hdn := Lib.hid hdn
      replace hlw := Lib.hid hlw
      clear u1 u2 u3 u4 hi1 hi2 hm hp
      go_wp2_with fail
      refine (cd.out _ (Bl.refl wr)).mono ?_
      rintro e w2 ⟨d2, rfl, i2, g2⟩
      have H2 := (Bl.refl wr).trans g2
      have s2 := i2.sv
      have dd := i2.dd
      obtain ⟨B2, k2, rfl, _⟩ := i2.sv
      have hf : q.d = [] ∨ A = none ∨ Value.ownBlock (.slice B2 q.d.length k2) ≠ A.map (·.block) := by
        rcases dd with h | h
        · exact .inl h
        · rcases own.lies with h' | ⟨gg, h', h3, _⟩
          · exact .inr (.inl h')
          · by_cases hbn : body = []
            · exact .inl (hdn.out hbn)
            · refine .inr (.inr fun e => ?_)
              rw [h'] at e
              have h4 := h gg e
              have h5 := hlw.out gg (by rw [slice_block]; exact h4) hbn
              omega
      obtain ⟨nq, hnq⟩ : ∃ nq, nq = q.d.length := ⟨_, rfl⟩
      rw [← hnq] at s2 hf ⊢
      replace hnq := Lib.hid hnq
      replace hf := Lib.hid hf
      replace s2 := Lib.hid s2
      clear cd x0 x1 x2 i2 dd hlw hdn
      have H3 := H2.alloc (.cells #[.int .i64 q.op, .int .i64 q.id, .int .i64 q.a, .int .i64 q.b, .int .i64 q.x0, .int .i64 q.y0, .int .i64 q.x1, .int .i64 q.y1, .string q.s, .slice B2 nq k2] 28)
      have own3 := own.bl H3
      by_cases h0 : E = 0
      · subst h0
        have hs1 := Lib.hid (hst.out rfl)
        have E3 := At.new w2 #[.int .i64 q.op, .int .i64 q.id, .int .i64 q.a, .int .i64 q.b, .int .i64 q.x0, .int .i64 q.y0, .int .i64 q.x1, .int .i64 q.y1, .string q.s, .slice B2 nq k2] 28
        have E4 := At.newAt (w := w2.alloc (.cells #[.int .i64 q.op, .int .i64 q.id, .int .i64 q.a, .int .i64 q.b, .int .i64 q.x0, .int .i64 q.y0, .int .i64 q.x1, .int .i64 q.y1, .string q.s, .slice B2 nq k2] 28)) (n := w2.heap.size + 1) (by simp) #[.int .i64 q.op, .int .i64 q.id, .int .i64 q.a, .int .i64 q.b, .int .i64 q.x0, .int .i64 q.y0, .int .i64 q.x1, .int .i64 q.y1, .string q.s, .slice B2 nq k2] 28
        have own4 := own3.bl ((Bl.refl _).alloc (.cells #[.int .i64 q.op, .int .i64 q.id, .int .i64 q.a, .int .i64 q.b, .int .i64 q.x0, .int .i64 q.y0, .int .i64 q.x1, .int .i64 q.y1, .string q.s, .slice B2 nq k2] 28))
        have G4 := (G.trans H3).alloc (.cells #[.int .i64 q.op, .int .i64 q.id, .int .i64 q.a, .int .i64 q.b, .int .i64 q.x0, .int .i64 q.y0, .int .i64 q.x1, .int .i64 q.y1, .string q.s, .slice B2 nq k2] 28)
        have s4 := (s2.out.bl ((Bl.refl w2).alloc (.cells #[.int .i64 q.op, .int .i64 q.id, .int .i64 q.a, .int .i64 q.b, .int .i64 q.x0, .int .i64 q.y0, .int .i64 q.x1, .int .i64 q.y1, .string q.s, .slice B2 nq k2] 28))).bl ((Bl.refl _).alloc (.cells #[.int .i64 q.op, .int .i64 q.id, .int .i64 q.a, .int .i64 q.b, .int .i64 q.x0, .int .i64 q.y0, .int .i64 q.x1, .int .i64 q.y1, .string q.s, .slice B2 nq k2] 28))
        have kk0 : ((w2.alloc (.cells #[.int .i64 q.op, .int .i64 q.id, .int .i64 q.a, .int .i64 q.b, .int .i64 q.x0, .int .i64 q.y0, .int .i64 q.x1, .int .i64 q.y1, .string q.s, .slice B2 nq k2] 28))).cell? ⟨w2.heap.size, 0, none⟩ = some (.int .i64 q.op) := (E3.cell 0).trans rfl
        have kk1 : ((w2.alloc (.cells #[.int .i64 q.op, .int .i64 q.id, .int .i64 q.a, .int .i64 q.b, .int .i64 q.x0, .int .i64 q.y0, .int .i64 q.x1, .int .i64 q.y1, .string q.s, .slice B2 nq k2] 28))).cell? ⟨w2.heap.size, 1, none⟩ = some (.int .i64 q.id) := (E3.cell 1).trans rfl
        have kk2 : ((w2.alloc (.cells #[.int .i64 q.op, .int .i64 q.id, .int .i64 q.a, .int .i64 q.b, .int .i64 q.x0, .int .i64 q.y0, .int .i64 q.x1, .int .i64 q.y1, .string q.s, .slice B2 nq k2] 28))).cell? ⟨w2.heap.size, 2, none⟩ = some (.int .i64 q.a) := (E3.cell 2).trans rfl
        have kk3 : ((w2.alloc (.cells #[.int .i64 q.op, .int .i64 q.id, .int .i64 q.a, .int .i64 q.b, .int .i64 q.x0, .int .i64 q.y0, .int .i64 q.x1, .int .i64 q.y1, .string q.s, .slice B2 nq k2] 28))).cell? ⟨w2.heap.size, 3, none⟩ = some (.int .i64 q.b) := (E3.cell 3).trans rfl
        have kk4 : ((w2.alloc (.cells #[.int .i64 q.op, .int .i64 q.id, .int .i64 q.a, .int .i64 q.b, .int .i64 q.x0, .int .i64 q.y0, .int .i64 q.x1, .int .i64 q.y1, .string q.s, .slice B2 nq k2] 28))).cell? ⟨w2.heap.size, 4, none⟩ = some (.int .i64 q.x0) := (E3.cell 4).trans rfl
        have kk5 : ((w2.alloc (.cells #[.int .i64 q.op, .int .i64 q.id, .int .i64 q.a, .int .i64 q.b, .int .i64 q.x0, .int .i64 q.y0, .int .i64 q.x1, .int .i64 q.y1, .string q.s, .slice B2 nq k2] 28))).cell? ⟨w2.heap.size, 5, none⟩ = some (.int .i64 q.y0) := (E3.cell 5).trans rfl
        have kk6 : ((w2.alloc (.cells #[.int .i64 q.op, .int .i64 q.id, .int .i64 q.a, .int .i64 q.b, .int .i64 q.x0, .int .i64 q.y0, .int .i64 q.x1, .int .i64 q.y1, .string q.s, .slice B2 nq k2] 28))).cell? ⟨w2.heap.size, 6, none⟩ = some (.int .i64 q.x1) := (E3.cell 6).trans rfl
        have kk7 : ((w2.alloc (.cells #[.int .i64 q.op, .int .i64 q.id, .int .i64 q.a, .int .i64 q.b, .int .i64 q.x0, .int .i64 q.y0, .int .i64 q.x1, .int .i64 q.y1, .string q.s, .slice B2 nq k2] 28))).cell? ⟨w2.heap.size, 7, none⟩ = some (.int .i64 q.y1) := (E3.cell 7).trans rfl
        have kk8 : ((w2.alloc (.cells #[.int .i64 q.op, .int .i64 q.id, .int .i64 q.a, .int .i64 q.b, .int .i64 q.x0, .int .i64 q.y0, .int .i64 q.x1, .int .i64 q.y1, .string q.s, .slice B2 nq k2] 28))).cell? ⟨w2.heap.size, 8, none⟩ = some (.string q.s) := (E3.cell 8).trans rfl
        have kk9 : ((w2.alloc (.cells #[.int .i64 q.op, .int .i64 q.id, .int .i64 q.a, .int .i64 q.b, .int .i64 q.x0, .int .i64 q.y0, .int .i64 q.x1, .int .i64 q.y1, .string q.s, .slice B2 nq k2] 28))).cell? ⟨w2.heap.size, 9, none⟩ = some (.slice B2 nq k2) := (E3.cell 9).trans rfl
        clear zn' hst hM ze zn own own3 H3 H2 g2
        go_wp2_with (at_builtin; refine wp_app_rq rfl (.tmp 35) (.tmp 37) rfl A c L rfl w1.heap.size own4 (w2.heap.size + 1) (q, .slice B2 nq k2) rfl E4 s4 hf.out (by omega) G4.size ?_; intro A2 c2 w4 own5 by2; have G5 := app_bl by2 G4 own4.lies (Nat.le_refl _))
        go_roundw
        case rel => exact ⟨k + 1, A2, c2, L ++ [(q, .slice B2 nq k2)], by omega, by simp, by go_num, own5, G5, by rw [List.map_append]; exact hs1, by have := hLk.out; exact Lib.hid (by simp; omega)⟩
        case measure => simp [intOf]; omega
      · have hne : (E == 0) = false := by simpa using h0
        have ex := Lib.hid (zn'.out h0 A c _ own3.pv (g1.trans (G.trans H3)))
        clear zn' hst hM ze zn own own3
        go_wp2
        exact ex.out
    · obtain rfl : k = n := by omega
      have q1 : ¬ (k : Int) < k := by omega
      have hkm : ms.length ≤ k := by rw [← hnm.out]; exact Nat.le_refl _
      have ex := Lib.hid (ze.out k L hu.out hkm A c _ own.pv (g1.trans G))
      clear ze zn hM own
      go_wp2
      exact ex.out

end Go.Proofs.YthkbenhlhldglaaDoor
