/-
  What is proved: the statement RequestWrites walked: the message of a request is the document's, or it is refused; what is written is read as it was. No conditions but bounds.
-/
import Derived.Test.YthkbenhlhldglaaDoorZi
import Derived.Test.YthkbenhlhldglaaDoorMk
import Derived.Test.YthkbenhlhldglaaDoorZka
import Derived.Test.YthkbenhlhldglaaDoorZn
import Derived.Test.YthkbenhlhldglaaDoorZof
import Derived.Test.YthkbenhlhldglaaDoorZph
import Derived.Test.YthkbenhlhldglaaDoorZsa
import Derived.Test.YthkbenhlhldglaaDoorMa
import Derived.Test.YthkbenhlhldglaaDoorMb
import Derived.Deep.RegionHeld3
import Derived.Deep.CutBlock
import Derived.Deep.DeepCutAuto
import Derived.Lib.AtoiErrMem
namespace Go.Proofs.YthkbenhlhldglaaDoor
open Go.RowKit Go.Sort

theorem goodQ_by2 {r : Rq} (h : ByL r.d) : ByL (goodQ r).d := by
  rcases goodQ_d r with e | e
  · rw [e]; exact ByL.nil
  · rw [e]; exact h.take 64
theorem sameQ_refl (r : Rq) : sameQ r r = true := (sameQ_iff r r).2 rfl
theorem sameM_refl (m : Ms) : sameM m m = true := (sameM_iff m m).2 rfl
/-- A text made bytes. -/
theorem to_bytes (s : ByteArray) (w : World) (hs : s.size ≤ maxLen) : ∃ (c : Nat) (w' : World), (convert 9 22 (.string s)).run Tryd.prog w = .ok (.slice (some ⟨w.heap.size, 0, none⟩) s.size c) w' ∧ Bl w w' ∧ RwB w' (some ⟨w.heap.size, 0, none⟩) (tb s) ∧ s.size ≤ c ∧ c ≤ maxLen := by
  refine ⟨_, _, Lib.run_convert_string_bytes w 9 22 5 s Tryd.underlying9 Tryd.underlying22 Tryd.underlying5, ?_, .inr ⟨w.heap.size, 0, rfl, fun i x hx => ?_⟩, grownCap_ge .., grownCap_le_maxLen _ _ _ _ hs⟩
  · exact Lib.bytesWorld_below _ _ _
  · have hi : i < s.size := by
      rcases Nat.lt_or_ge i s.size with h | h
      · exact h
      · rw [List.getElem?_eq_none (by rw [tb_len]; exact h)] at hx; cases hx
    rw [Nat.zero_add, Lib.bytesWorld_cell w _ s i hi]
    unfold tb at hx
    rw [List.getElem?_map] at hx
    rw [List.getD_eq_getElem?_getD]
    cases h : s.data.toList[i]? with
    | none => rw [h] at hx; cases hx
    | some c => rw [h] at hx; cases hx; rfl
/-- Requests that lie in a row. -/
def RowQ (w : World) (b off : Nat) (X : List (Rq × Value)) : Prop := ∀ k p, X[k]? = some p → w.cell? ⟨b, off + k * 10, none⟩ = some (.int .i64 p.1.op) ∧ w.cell? ⟨b, off + k * 10 + 1, none⟩ = some (.int .i64 p.1.id) ∧ w.cell? ⟨b, off + k * 10 + 2, none⟩ = some (.int .i64 p.1.a) ∧ w.cell? ⟨b, off + k * 10 + 3, none⟩ = some (.int .i64 p.1.b) ∧ w.cell? ⟨b, off + k * 10 + 4, none⟩ = some (.int .i64 p.1.x0) ∧ w.cell? ⟨b, off + k * 10 + 5, none⟩ = some (.int .i64 p.1.y0) ∧ w.cell? ⟨b, off + k * 10 + 6, none⟩ = some (.int .i64 p.1.x1) ∧ w.cell? ⟨b, off + k * 10 + 7, none⟩ = some (.int .i64 p.1.y1) ∧ w.cell? ⟨b, off + k * 10 + 8, none⟩ = some (.string p.1.s) ∧ w.cell? ⟨b, off + k * 10 + 9, none⟩ = some p.2
def Qv (w : World) (A : Option Addr) (X : List (Rq × Value)) : Prop := (X = [] ∨ ∃ b off, A = some ⟨b, off, none⟩ ∧ RowQ w b off X) ∧ ∀ p ∈ X, Sv w p.2 p.1.d
theorem RowQ.bl {w w' : World} {b off : Nat} {X : List (Rq × Value)} (h : RowQ w b off X) (g : Bl w w') : RowQ w' b off X := fun k p hk => by
  obtain ⟨h0, h1, h2, h3, h4, h5, h6, h7, h8, h9⟩ := h k p hk
  exact ⟨g.keep h0, g.keep h1, g.keep h2, g.keep h3, g.keep h4, g.keep h5, g.keep h6, g.keep h7, g.keep h8, g.keep h9⟩
theorem Qv.bl {w w' : World} {A : Option Addr} {X : List (Rq × Value)} (h : Qv w A X) (g : Bl w w') : Qv w' A X := by
  refine ⟨?_, fun p hp => (h.2 p hp).bl g⟩
  rcases h.1 with h | ⟨b, off, h1, h2⟩
  · exact .inl h
  · exact .inr ⟨b, off, h1, h2.bl g⟩
theorem Qv.at {w : World} {A : Option Addr} {X : List (Rq × Value)} (h : Qv w A X) {k : Nat} (hk : k < X.length) : ∃ b off p, A = some ⟨b, off, none⟩ ∧ X[k]? = some p ∧ w.cell? ⟨b, off + k * 10, none⟩ = some (.int .i64 p.1.op) ∧ w.cell? ⟨b, off + k * 10 + 1, none⟩ = some (.int .i64 p.1.id) ∧ w.cell? ⟨b, off + k * 10 + 2, none⟩ = some (.int .i64 p.1.a) ∧ w.cell? ⟨b, off + k * 10 + 3, none⟩ = some (.int .i64 p.1.b) ∧ w.cell? ⟨b, off + k * 10 + 4, none⟩ = some (.int .i64 p.1.x0) ∧ w.cell? ⟨b, off + k * 10 + 5, none⟩ = some (.int .i64 p.1.y0) ∧ w.cell? ⟨b, off + k * 10 + 6, none⟩ = some (.int .i64 p.1.x1) ∧ w.cell? ⟨b, off + k * 10 + 7, none⟩ = some (.int .i64 p.1.y1) ∧ w.cell? ⟨b, off + k * 10 + 8, none⟩ = some (.string p.1.s) ∧ w.cell? ⟨b, off + k * 10 + 9, none⟩ = some p.2 ∧ Sv w p.2 p.1.d := by
  obtain ⟨p, hp⟩ := list_at hk
  rcases h.1 with h' | ⟨b, off, rfl, hr⟩
  · subst h'; simp at hk
  · obtain ⟨h0, h1, h2, h3, h4, h5, h6, h7, h8, h9⟩ := hr k p hp
    exact ⟨b, off, p, rfl, hp, h0, h1, h2, h3, h4, h5, h6, h7, h8, h9, h.2 p (List.mem_of_getElem? hp)⟩
theorem Sv.setQ {w : World} {v u : Value} {L : List Int} {b j : Nat} {cs : Array Value} {t : TypeId} (h : Sv w v L) (hX : At w b cs t) (hu : ∀ (i : Nat) (x : Int), cs[i]? = some (Value.int .u8 x) → False) : Sv (w.setCell ⟨b, j, none⟩ u) v L := by
  refine h.by (By.set (p := ⟨b, j, none⟩) ((Bl.refl w).byr (some b)) u) ?_
  obtain ⟨A, c, rfl, _, _, _, hr⟩ := h
  rcases hr with h | ⟨b', off, rfl, hr⟩
  · exact .inl h
  · cases L with
    | nil => exact .inl rfl
    | cons x L =>
      refine .inr (.inr fun e => ?_)
      have e' : b' = b := by simpa [Value.ownBlock] using e
      subst e'
      have h1 := hr 0 x rfl
      rw [Nat.add_zero, hX.cell off] at h1
      exact hu _ _ h1
theorem no_u8 {a0 a1 a2 a3 a4 a5 a6 a7 : Int} {s : ByteArray} {A : Option Addr} {n c : Nat} (i : Nat) (x : Int) (h : (#[.int .i64 a0, .int .i64 a1, .int .i64 a2, .int .i64 a3, .int .i64 a4, .int .i64 a5, .int .i64 a6, .int .i64 a7, .string s, .slice A n c] : Array Value)[i]? = some (Value.int .u8 x)) : False := by
  match i, h with
  | 0, h => simp at h
  | 1, h => simp at h
  | 2, h => simp at h
  | 3, h => simp at h
  | 4, h => simp at h
  | 5, h => simp at h
  | 6, h => simp at h
  | 7, h => simp at h
  | 8, h => simp at h
  | 9, h => simp at h
  | k + 10, h => simp at h
theorem three_qv {w : World} {b : Nat} {q0 q1 q2 : Rq} {d0 d1 d2 : Value} {t : TypeId} (h : At w b #[.int .i64 q0.op, .int .i64 q0.id, .int .i64 q0.a, .int .i64 q0.b, .int .i64 q0.x0, .int .i64 q0.y0, .int .i64 q0.x1, .int .i64 q0.y1, .string q0.s, d0, .int .i64 q1.op, .int .i64 q1.id, .int .i64 q1.a, .int .i64 q1.b, .int .i64 q1.x0, .int .i64 q1.y0, .int .i64 q1.x1, .int .i64 q1.y1, .string q1.s, d1, .int .i64 q2.op, .int .i64 q2.id, .int .i64 q2.a, .int .i64 q2.b, .int .i64 q2.x0, .int .i64 q2.y0, .int .i64 q2.x1, .int .i64 q2.y1, .string q2.s, d2] t) (s0 : Sv w d0 q0.d) (s1 : Sv w d1 q1.d) (s2 : Sv w d2 q2.d) : Qv w (some ⟨b, 0, none⟩) [(q0, d0), (q1, d1), (q2, d2)] := by
  refine ⟨.inr ⟨b, 0, rfl, fun k p hp => ?_⟩, fun p hp => ?_⟩
  · match k, hp with
    | 0, hp => cases hp; exact ⟨(h.cell 0).trans rfl, (h.cell 1).trans rfl, (h.cell 2).trans rfl, (h.cell 3).trans rfl, (h.cell 4).trans rfl, (h.cell 5).trans rfl, (h.cell 6).trans rfl, (h.cell 7).trans rfl, (h.cell 8).trans rfl, (h.cell 9).trans rfl⟩
    | 1, hp => cases hp; exact ⟨(h.cell 10).trans rfl, (h.cell 11).trans rfl, (h.cell 12).trans rfl, (h.cell 13).trans rfl, (h.cell 14).trans rfl, (h.cell 15).trans rfl, (h.cell 16).trans rfl, (h.cell 17).trans rfl, (h.cell 18).trans rfl, (h.cell 19).trans rfl⟩
    | 2, hp => cases hp; exact ⟨(h.cell 20).trans rfl, (h.cell 21).trans rfl, (h.cell 22).trans rfl, (h.cell 23).trans rfl, (h.cell 24).trans rfl, (h.cell 25).trans rfl, (h.cell 26).trans rfl, (h.cell 27).trans rfl, (h.cell 28).trans rfl, (h.cell 29).trans rfl⟩
    | k + 3, hp => simp at hp
  · simp only [List.mem_cons, List.not_mem_nil, or_false] at hp
    rcases hp with rfl | rfl | rfl
    · exact s0
    · exact s1
    · exact s2
set_option maxRecDepth 100000 in
set_option maxHeartbeats 4000000 in
theorem qwrites_core (r : Rq) (d : Value) (s : ByteArray) (w : World) (hsv : Sv w d r.d) (hin : InQ r) (hs : s.size ≤ maxLen) :
    Calls Tryd.prog 4 #[vQ r d, .string s] w (fun e w' => e = .returned (.bool true) ∧ Bl w w') := by
  have hrs : r.s.size ≤ maxLen := hin.s
  have bg := goodQ_by2 hin.d
  have cg := fun V (g : Bl w V) => rgoodQ1 r d V (hsv.bl g) hin
  have bd := hin.d.take 300
  have heg := fun V e h => enc1 (goodQ r) e V h bg
  obtain ⟨bb, _, _, he, _⟩ := (goodQ_ok r).enc
  rw [he] at heg
  clear he hin
  obtain ⟨Ad, cd, rfl, h1, h2, h3, h4⟩ := hsv
  have cf := fun V => fewB1 Ad cd r.d 300 300 rfl V h4.ad h2 h3 (by omega)
  have sd : Sv w (.slice Ad (r.d.take 300).length cd) (r.d.take 300) := ⟨Ad, cd, rfl, h1, Nat.le_trans (by rw [List.length_take]; omega) h2, h3, by
    rcases h4 with h | ⟨b, off, h, hr⟩
    · exact .inl (by rw [h]; rfl)
    · exact .inr ⟨b, off, h, hr.take 300⟩⟩
  clear h1 h2 h3 h4
  generalize r.d.take 300 = D0 at *
  unfold GoodQ at cg
  unfold EncQ at heg
  generalize goodQ r = g at *
  unfold vQ at *
  generalize r.d.length = nd at *
  obtain ⟨n0, hn0⟩ : ∃ n0, n0 = D0.length := ⟨_, rfl⟩
  rw [← hn0] at cf sd
  replace hn0 := Lib.hid hn0
  replace sd := Lib.hid sd
  replace bd := Lib.hid bd
  replace bg := Lib.hid bg
  have cl := qlives1
  have X2 := At.new w #[.int .i64 r.op, .int .i64 r.id, .int .i64 r.a, .int .i64 r.b, .int .i64 r.x0, .int .i64 r.y0, .int .i64 r.x1, .int .i64 r.y1, .string r.s, .slice Ad nd cd] 28
  have G0 : Bl w (w.alloc (.cells #[.int .i64 r.op, .int .i64 r.id, .int .i64 r.a, .int .i64 r.b, .int .i64 r.x0, .int .i64 r.y0, .int .i64 r.x1, .int .i64 r.y1, .string r.s, .slice Ad nd cd] 28)) := (Bl.refl w).alloc _
  have yk0 : ((w.alloc (.cells #[.int .i64 r.op, .int .i64 r.id, .int .i64 r.a, .int .i64 r.b, .int .i64 r.x0, .int .i64 r.y0, .int .i64 r.x1, .int .i64 r.y1, .string r.s, .slice Ad nd cd] 28))).cell? ⟨w.heap.size, 0, none⟩ = some (.int .i64 r.op) := (X2.cell 0).trans rfl
  have yk1 : ((w.alloc (.cells #[.int .i64 r.op, .int .i64 r.id, .int .i64 r.a, .int .i64 r.b, .int .i64 r.x0, .int .i64 r.y0, .int .i64 r.x1, .int .i64 r.y1, .string r.s, .slice Ad nd cd] 28))).cell? ⟨w.heap.size, 1, none⟩ = some (.int .i64 r.id) := (X2.cell 1).trans rfl
  have yk2 : ((w.alloc (.cells #[.int .i64 r.op, .int .i64 r.id, .int .i64 r.a, .int .i64 r.b, .int .i64 r.x0, .int .i64 r.y0, .int .i64 r.x1, .int .i64 r.y1, .string r.s, .slice Ad nd cd] 28))).cell? ⟨w.heap.size, 2, none⟩ = some (.int .i64 r.a) := (X2.cell 2).trans rfl
  have yk3 : ((w.alloc (.cells #[.int .i64 r.op, .int .i64 r.id, .int .i64 r.a, .int .i64 r.b, .int .i64 r.x0, .int .i64 r.y0, .int .i64 r.x1, .int .i64 r.y1, .string r.s, .slice Ad nd cd] 28))).cell? ⟨w.heap.size, 3, none⟩ = some (.int .i64 r.b) := (X2.cell 3).trans rfl
  have yk4 : ((w.alloc (.cells #[.int .i64 r.op, .int .i64 r.id, .int .i64 r.a, .int .i64 r.b, .int .i64 r.x0, .int .i64 r.y0, .int .i64 r.x1, .int .i64 r.y1, .string r.s, .slice Ad nd cd] 28))).cell? ⟨w.heap.size, 4, none⟩ = some (.int .i64 r.x0) := (X2.cell 4).trans rfl
  have yk5 : ((w.alloc (.cells #[.int .i64 r.op, .int .i64 r.id, .int .i64 r.a, .int .i64 r.b, .int .i64 r.x0, .int .i64 r.y0, .int .i64 r.x1, .int .i64 r.y1, .string r.s, .slice Ad nd cd] 28))).cell? ⟨w.heap.size, 5, none⟩ = some (.int .i64 r.y0) := (X2.cell 5).trans rfl
  have yk6 : ((w.alloc (.cells #[.int .i64 r.op, .int .i64 r.id, .int .i64 r.a, .int .i64 r.b, .int .i64 r.x0, .int .i64 r.y0, .int .i64 r.x1, .int .i64 r.y1, .string r.s, .slice Ad nd cd] 28))).cell? ⟨w.heap.size, 6, none⟩ = some (.int .i64 r.x1) := (X2.cell 6).trans rfl
  have yk7 : ((w.alloc (.cells #[.int .i64 r.op, .int .i64 r.id, .int .i64 r.a, .int .i64 r.b, .int .i64 r.x0, .int .i64 r.y0, .int .i64 r.x1, .int .i64 r.y1, .string r.s, .slice Ad nd cd] 28))).cell? ⟨w.heap.size, 7, none⟩ = some (.int .i64 r.y1) := (X2.cell 7).trans rfl
  have yk8 : ((w.alloc (.cells #[.int .i64 r.op, .int .i64 r.id, .int .i64 r.a, .int .i64 r.b, .int .i64 r.x0, .int .i64 r.y0, .int .i64 r.x1, .int .i64 r.y1, .string r.s, .slice Ad nd cd] 28))).cell? ⟨w.heap.size, 8, none⟩ = some (.string r.s) := (X2.cell 8).trans rfl
  have yk9 : ((w.alloc (.cells #[.int .i64 r.op, .int .i64 r.id, .int .i64 r.a, .int .i64 r.b, .int .i64 r.x0, .int .i64 r.y0, .int .i64 r.x1, .int .i64 r.y1, .string r.s, .slice Ad nd cd] 28))).cell? ⟨w.heap.size, 9, none⟩ = some (.slice Ad nd cd) := (X2.cell 9).trans rfl
  go_enter Tryd.func4, Tryd.ntmps4
  go_wp2_with fail
  refine (cg _ G0).mono ?_
  rintro e w1 ⟨dg, rfl, sg, g1⟩
  obtain ⟨Ag, kg, rfl, hg⟩ := sg
  have sg : Sv w1 (.slice Ag g.d.length kg) g.d := ⟨Ag, kg, rfl, hg⟩
  obtain ⟨ng, hng⟩ : ∃ ng, ng = g.d.length := ⟨_, rfl⟩
  rw [← hng] at sg ⊢
  replace hng := Lib.hid hng
  have hB : w.heap.size < w1.heap.size := by have := g1.size; simp at this; omega
  have X2w := X2.bl g1
  have X2a := X2w.alloc (.cells #[.int .i64 g.op, .int .i64 g.id, .int .i64 g.a, .int .i64 g.b, .int .i64 g.x0, .int .i64 g.y0, .int .i64 g.x1, .int .i64 g.y1, .string g.s, .slice Ag ng kg] 28)
  have G01 := G0.trans g1
  clear yk0 yk1 yk2 yk3 yk4 yk5 yk6 yk7 yk8 yk9 cg hg X2 G0
  have z9 : (w1.alloc (.cells #[.int .i64 g.op, .int .i64 g.id, .int .i64 g.a, .int .i64 g.b, .int .i64 g.x0, .int .i64 g.y0, .int .i64 g.x1, .int .i64 g.y1, .string g.s, .slice Ag ng kg] 28)).cell? ⟨w.heap.size, 9, none⟩ = some (.slice Ad nd cd) := (X2a.cell 9).trans rfl
  have zf9 : (w1.alloc (.cells #[.int .i64 g.op, .int .i64 g.id, .int .i64 g.a, .int .i64 g.b, .int .i64 g.x0, .int .i64 g.y0, .int .i64 g.x1, .int .i64 g.y1, .string g.s, .slice Ag ng kg] 28)).frozen? ⟨w.heap.size, 9, none⟩ = false := X2a.free 9
  go_wp2_with fail
  refine (cf _).mono ?_
  rintro e w2 ⟨rfl, rfl⟩
  go_upto_region 3 with fail
  have X2p := X2w.put 9 (.slice Ad n0 cd)
  have X2q : At (w1.setCell ⟨w.heap.size, 9, none⟩ (.slice Ad n0 cd)) w.heap.size #[.int .i64 r.op, .int .i64 r.id, .int .i64 r.a, .int .i64 r.b, .int .i64 r.x0, .int .i64 r.y0, .int .i64 r.x1, .int .i64 r.y1, .string r.s, .slice Ad n0 cd] 28 := by simpa using X2p
  have X2b := X2q.alloc (.cells #[.int .i64 g.op, .int .i64 g.id, .int .i64 g.a, .int .i64 g.b, .int .i64 g.x0, .int .i64 g.y0, .int .i64 g.x1, .int .i64 g.y1, .string g.s, .slice Ag ng kg] 28)
  have X5b := At.newAt (w := w1.setCell ⟨w.heap.size, 9, none⟩ (.slice Ad n0 cd)) (n := w1.heap.size) (by simp) #[.int .i64 g.op, .int .i64 g.id, .int .i64 g.a, .int .i64 g.b, .int .i64 g.x0, .int .i64 g.y0, .int .i64 g.x1, .int .i64 g.y1, .string g.s, .slice Ag ng kg] 28
  have G2 := (G01.setCell (p := ⟨w.heap.size, 9, none⟩) (Nat.le_refl _) (.slice Ad n0 cd)).alloc (.cells #[.int .i64 g.op, .int .i64 g.id, .int .i64 g.a, .int .i64 g.b, .int .i64 g.x0, .int .i64 g.y0, .int .i64 g.x1, .int .i64 g.y1, .string g.s, .slice Ag ng kg] 28)
  have sg2 := Lib.hid ((sg.setQ (j := 9) (u := .slice Ad n0 cd) X2w no_u8).bl ((Bl.refl _).alloc (.cells #[.int .i64 g.op, .int .i64 g.id, .int .i64 g.a, .int .i64 g.b, .int .i64 g.x0, .int .i64 g.y0, .int .i64 g.x1, .int .i64 g.y1, .string g.s, .slice Ag ng kg] 28)))
  generalize ((w1.setCell ⟨w.heap.size, 9, none⟩ (.slice Ad n0 cd)).alloc (.cells #[.int .i64 g.op, .int .i64 g.id, .int .i64 g.a, .int .i64 g.b, .int .i64 g.x0, .int .i64 g.y0, .int .i64 g.x1, .int .i64 g.y1, .string g.s, .slice Ag ng kg] 28)) = w2 at *
  clear z9 zf9 cf X2p X2a X2q X2w G01 sg
  obtain ⟨c1, w3, t1, H3, R3, k1, k2⟩ := to_bytes r.s w2 hrs
  have cf2 := fun V => fewB1 (some ⟨w2.heap.size, 0, none⟩) c1 (tb r.s) 300 300 rfl V R3.ad (by rw [tb_len]; exact k1) k2 (by omega)
  rw [tb_len] at cf2
  have R3' : RwB w3 (some ⟨w2.heap.size, 0, none⟩) ((tb r.s).take 300) := by
    rcases R3 with h | ⟨b, off, h, hr⟩
    · exact .inl (by rw [h]; rfl)
    · exact .inr ⟨b, off, h, hr.take 300⟩
  have t2 := Sv.text (c := c1) R3'
  generalize strOfNums ((tb r.s).take 300) = S0 at *
  generalize ((tb r.s).take 300).length = e0 at *
  have X2c := X2b.bl H3
  have z8 : w2.cell? ⟨w.heap.size, 8, none⟩ = some (.string r.s) := (X2b.cell 8).trans rfl
  have y8 : w3.cell? ⟨w.heap.size, 8, none⟩ = some (.string r.s) := (X2c.cell 8).trans rfl
  have y8f : w3.frozen? ⟨w.heap.size, 8, none⟩ = false := X2c.free 8
  clear R3 R3' k1 k2
  go_wp2_with fail
  refine (cf2 _).mono ?_
  rintro e w3' ⟨rfl, rfl⟩
  go_upto_region 4 with fail
  have X2p := X2c.put 8 (.string S0)
  have X2d : At (w3.setCell ⟨w.heap.size, 8, none⟩ (.string S0)) w.heap.size #[.int .i64 r.op, .int .i64 r.id, .int .i64 r.a, .int .i64 r.b, .int .i64 r.x0, .int .i64 r.y0, .int .i64 r.x1, .int .i64 r.y1, .string S0, .slice Ad n0 cd] 28 := by simpa using X2p
  have X5d := (X5b.bl H3).far (p := ⟨w.heap.size, 8, none⟩) (by simp; omega) (.string S0)
  have G4 := (G2.trans H3).setCell (p := ⟨w.heap.size, 8, none⟩) (Nat.le_refl _) (.string S0)
  have sg4 := Lib.hid ((sg2.out.bl H3).setQ (j := 8) (u := .string S0) X2c no_u8)
  generalize (w3.setCell ⟨w.heap.size, 8, none⟩ (.string S0)) = w4 at *
  clear z8 y8 y8f t1 t2 H3 X2p X2c X2b X5b G2 sg2 cf2
  have yk0 : (w4).cell? ⟨w1.heap.size, 0, none⟩ = some (.int .i64 g.op) := (X5d.cell 0).trans rfl
  have yk1 : (w4).cell? ⟨w1.heap.size, 1, none⟩ = some (.int .i64 g.id) := (X5d.cell 1).trans rfl
  have yk2 : (w4).cell? ⟨w1.heap.size, 2, none⟩ = some (.int .i64 g.a) := (X5d.cell 2).trans rfl
  have yk3 : (w4).cell? ⟨w1.heap.size, 3, none⟩ = some (.int .i64 g.b) := (X5d.cell 3).trans rfl
  have yk4 : (w4).cell? ⟨w1.heap.size, 4, none⟩ = some (.int .i64 g.x0) := (X5d.cell 4).trans rfl
  have yk5 : (w4).cell? ⟨w1.heap.size, 5, none⟩ = some (.int .i64 g.y0) := (X5d.cell 5).trans rfl
  have yk6 : (w4).cell? ⟨w1.heap.size, 6, none⟩ = some (.int .i64 g.x1) := (X5d.cell 6).trans rfl
  have yk7 : (w4).cell? ⟨w1.heap.size, 7, none⟩ = some (.int .i64 g.y1) := (X5d.cell 7).trans rfl
  have yk8 : (w4).cell? ⟨w1.heap.size, 8, none⟩ = some (.string g.s) := (X5d.cell 8).trans rfl
  have yk9 : (w4).cell? ⟨w1.heap.size, 9, none⟩ = some (.slice Ag ng kg) := (X5d.cell 9).trans rfl
  go_upto_region 5 with fail
  have X6e := At.new w4 #[.int .i64 g.op, .int .i64 g.id, .int .i64 g.a, .int .i64 g.b, .int .i64 g.x0, .int .i64 g.y0, .int .i64 g.x1, .int .i64 g.y1, .string g.s, .slice Ag ng kg] 28
  have l2 := X2d.lt
  have l5 := X5d.lt
  have l4 := G4.size
  have X2e := X2d.alloc (.cells #[.int .i64 g.op, .int .i64 g.id, .int .i64 g.a, .int .i64 g.b, .int .i64 g.x0, .int .i64 g.y0, .int .i64 g.x1, .int .i64 g.y1, .string g.s, .slice Ag ng kg] 28)
  have X5e := X5d.alloc (.cells #[.int .i64 g.op, .int .i64 g.id, .int .i64 g.a, .int .i64 g.b, .int .i64 g.x0, .int .i64 g.y0, .int .i64 g.x1, .int .i64 g.y1, .string g.s, .slice Ag ng kg] 28)
  have G5 := G4.alloc (.cells #[.int .i64 g.op, .int .i64 g.id, .int .i64 g.a, .int .i64 g.b, .int .i64 g.x0, .int .i64 g.y0, .int .i64 g.x1, .int .i64 g.y1, .string g.s, .slice Ag ng kg] 28)
  have sg5 := Lib.hid (sg4.out.bl ((Bl.refl w4).alloc (.cells #[.int .i64 g.op, .int .i64 g.id, .int .i64 g.a, .int .i64 g.b, .int .i64 g.x0, .int .i64 g.y0, .int .i64 g.x1, .int .i64 g.y1, .string g.s, .slice Ag ng kg] 28)))
  generalize w4.alloc (.cells #[.int .i64 g.op, .int .i64 g.id, .int .i64 g.a, .int .i64 g.b, .int .i64 g.x0, .int .i64 g.y0, .int .i64 g.x1, .int .i64 g.y1, .string g.s, .slice Ag ng kg] 28) = w5 at *
  generalize w4.heap.size = b6 at *
  clear yk0 yk1 yk2 yk3 yk4 yk5 yk6 yk7 yk8 yk9 X2d X5d G4 sg4
  obtain ⟨c2, w6, t1, H6, R6, k1, k2⟩ := to_bytes s w5 hs
  have cf2 := fun V => fewB1 (some ⟨w5.heap.size, 0, none⟩) c2 (tb s) 300 300 rfl V R6.ad (by rw [tb_len]; exact k1) k2 (by omega)
  rw [tb_len] at cf2
  have R6' : RwB w6 (some ⟨w5.heap.size, 0, none⟩) ((tb s).take 300) := by
    rcases R6 with h | ⟨b, off, h, hr⟩
    · exact .inl (by rw [h]; rfl)
    · exact .inr ⟨b, off, h, hr.take 300⟩
  have t2 := Sv.text (c := c2) R6'
  generalize strOfNums ((tb s).take 300) = S2 at *
  generalize ((tb s).take 300).length = e2 at *
  have X2f := X2e.bl H6
  have X5f := X5e.bl H6
  have X6f := X6e.bl H6
  have y8 : w6.cell? ⟨b6, 8, none⟩ = some (.string g.s) := (X6f.cell 8).trans rfl
  have y8f : w6.frozen? ⟨b6, 8, none⟩ = false := X6f.free 8
  clear R6 R6' k1 k2
  go_wp2_with fail
  refine (cf2 _).mono ?_
  rintro e w6' ⟨rfl, rfl⟩
  go_upto_region 6 with fail
  have X6p := X6f.put 8 (.string S2)
  have X6g : At (w6.setCell ⟨b6, 8, none⟩ (.string S2)) b6 #[.int .i64 g.op, .int .i64 g.id, .int .i64 g.a, .int .i64 g.b, .int .i64 g.x0, .int .i64 g.y0, .int .i64 g.x1, .int .i64 g.y1, .string S2, .slice Ag ng kg] 28 := by simpa using X6p
  have X2g := X2f.far (p := ⟨b6, 8, none⟩) (by simp; omega) (.string S2)
  have X5g := X5f.far (p := ⟨b6, 8, none⟩) (by simp; omega) (.string S2)
  have G7 := (G5.trans H6).setCell (p := ⟨b6, 8, none⟩) l4 (.string S2)
  have sg7 := Lib.hid ((sg5.out.bl H6).setQ (j := 8) (u := .string S2) X6f no_u8)
  generalize (w6.setCell ⟨b6, 8, none⟩ (.string S2)) = w7 at *
  clear y8 y8f t1 t2 H6 X6p X6f X2f X5f X2e X5e X6e G5 sg5 cf2 l2 l5 l4
  have ak0 : (w7).cell? ⟨w.heap.size, 0, none⟩ = some (.int .i64 r.op) := (X2g.cell 0).trans rfl
  have ak1 : (w7).cell? ⟨w.heap.size, 1, none⟩ = some (.int .i64 r.id) := (X2g.cell 1).trans rfl
  have ak2 : (w7).cell? ⟨w.heap.size, 2, none⟩ = some (.int .i64 r.a) := (X2g.cell 2).trans rfl
  have ak3 : (w7).cell? ⟨w.heap.size, 3, none⟩ = some (.int .i64 r.b) := (X2g.cell 3).trans rfl
  have ak4 : (w7).cell? ⟨w.heap.size, 4, none⟩ = some (.int .i64 r.x0) := (X2g.cell 4).trans rfl
  have ak5 : (w7).cell? ⟨w.heap.size, 5, none⟩ = some (.int .i64 r.y0) := (X2g.cell 5).trans rfl
  have ak6 : (w7).cell? ⟨w.heap.size, 6, none⟩ = some (.int .i64 r.x1) := (X2g.cell 6).trans rfl
  have ak7 : (w7).cell? ⟨w.heap.size, 7, none⟩ = some (.int .i64 r.y1) := (X2g.cell 7).trans rfl
  have ak8 : (w7).cell? ⟨w.heap.size, 8, none⟩ = some (.string S0) := (X2g.cell 8).trans rfl
  have ak9 : (w7).cell? ⟨w.heap.size, 9, none⟩ = some (.slice Ad n0 cd) := (X2g.cell 9).trans rfl
  have bk0 : (w7).cell? ⟨w1.heap.size, 0, none⟩ = some (.int .i64 g.op) := (X5g.cell 0).trans rfl
  have bk1 : (w7).cell? ⟨w1.heap.size, 1, none⟩ = some (.int .i64 g.id) := (X5g.cell 1).trans rfl
  have bk2 : (w7).cell? ⟨w1.heap.size, 2, none⟩ = some (.int .i64 g.a) := (X5g.cell 2).trans rfl
  have bk3 : (w7).cell? ⟨w1.heap.size, 3, none⟩ = some (.int .i64 g.b) := (X5g.cell 3).trans rfl
  have bk4 : (w7).cell? ⟨w1.heap.size, 4, none⟩ = some (.int .i64 g.x0) := (X5g.cell 4).trans rfl
  have bk5 : (w7).cell? ⟨w1.heap.size, 5, none⟩ = some (.int .i64 g.y0) := (X5g.cell 5).trans rfl
  have bk6 : (w7).cell? ⟨w1.heap.size, 6, none⟩ = some (.int .i64 g.x1) := (X5g.cell 6).trans rfl
  have bk7 : (w7).cell? ⟨w1.heap.size, 7, none⟩ = some (.int .i64 g.y1) := (X5g.cell 7).trans rfl
  have bk8 : (w7).cell? ⟨w1.heap.size, 8, none⟩ = some (.string g.s) := (X5g.cell 8).trans rfl
  have bk9 : (w7).cell? ⟨w1.heap.size, 9, none⟩ = some (.slice Ag ng kg) := (X5g.cell 9).trans rfl
  have ck0 : (w7).cell? ⟨b6, 0, none⟩ = some (.int .i64 g.op) := (X6g.cell 0).trans rfl
  have ck1 : (w7).cell? ⟨b6, 1, none⟩ = some (.int .i64 g.id) := (X6g.cell 1).trans rfl
  have ck2 : (w7).cell? ⟨b6, 2, none⟩ = some (.int .i64 g.a) := (X6g.cell 2).trans rfl
  have ck3 : (w7).cell? ⟨b6, 3, none⟩ = some (.int .i64 g.b) := (X6g.cell 3).trans rfl
  have ck4 : (w7).cell? ⟨b6, 4, none⟩ = some (.int .i64 g.x0) := (X6g.cell 4).trans rfl
  have ck5 : (w7).cell? ⟨b6, 5, none⟩ = some (.int .i64 g.y0) := (X6g.cell 5).trans rfl
  have ck6 : (w7).cell? ⟨b6, 6, none⟩ = some (.int .i64 g.x1) := (X6g.cell 6).trans rfl
  have ck7 : (w7).cell? ⟨b6, 7, none⟩ = some (.int .i64 g.y1) := (X6g.cell 7).trans rfl
  have ck8 : (w7).cell? ⟨b6, 8, none⟩ = some (.string S2) := (X6g.cell 8).trans rfl
  have ck9 : (w7).cell? ⟨b6, 9, none⟩ = some (.slice Ag ng kg) := (X6g.cell 9).trans rfl
  have XX := At.new w7 #[.int .i64 r.op, .int .i64 r.id, .int .i64 r.a, .int .i64 r.b, .int .i64 r.x0, .int .i64 r.y0, .int .i64 r.x1, .int .i64 r.y1, .string S0, .slice Ad n0 cd, .int .i64 g.op, .int .i64 g.id, .int .i64 g.a, .int .i64 g.b, .int .i64 g.x0, .int .i64 g.y0, .int .i64 g.x1, .int .i64 g.y1, .string g.s, .slice Ag ng kg, .int .i64 g.op, .int .i64 g.id, .int .i64 g.a, .int .i64 g.b, .int .i64 g.x0, .int .i64 g.y0, .int .i64 g.x1, .int .i64 g.y1, .string S2, .slice Ag ng kg] 28
  have HX : Bl w7 (w7.alloc (.cells #[.int .i64 r.op, .int .i64 r.id, .int .i64 r.a, .int .i64 r.b, .int .i64 r.x0, .int .i64 r.y0, .int .i64 r.x1, .int .i64 r.y1, .string S0, .slice Ad n0 cd, .int .i64 g.op, .int .i64 g.id, .int .i64 g.a, .int .i64 g.b, .int .i64 g.x0, .int .i64 g.y0, .int .i64 g.x1, .int .i64 g.y1, .string g.s, .slice Ag ng kg, .int .i64 g.op, .int .i64 g.id, .int .i64 g.a, .int .i64 g.b, .int .i64 g.x0, .int .i64 g.y0, .int .i64 g.x1, .int .i64 g.y1, .string S2, .slice Ag ng kg] 28)) := (Bl.refl w7).alloc _
  have GX := Lib.hid (G7.trans HX)
  have M0 : Qv (w7.alloc (.cells #[.int .i64 r.op, .int .i64 r.id, .int .i64 r.a, .int .i64 r.b, .int .i64 r.x0, .int .i64 r.y0, .int .i64 r.x1, .int .i64 r.y1, .string S0, .slice Ad n0 cd, .int .i64 g.op, .int .i64 g.id, .int .i64 g.a, .int .i64 g.b, .int .i64 g.x0, .int .i64 g.y0, .int .i64 g.x1, .int .i64 g.y1, .string g.s, .slice Ag ng kg, .int .i64 g.op, .int .i64 g.id, .int .i64 g.a, .int .i64 g.b, .int .i64 g.x0, .int .i64 g.y0, .int .i64 g.x1, .int .i64 g.y1, .string S2, .slice Ag ng kg] 28)) (some ⟨w7.heap.size, 0, none⟩) [((⟨r.op, r.id, r.a, r.b, r.x0, r.y0, r.x1, r.y1, S0, D0⟩ : Rq), Value.slice Ad n0 cd), (g, .slice Ag ng kg), (⟨g.op, g.id, g.a, g.b, g.x0, g.y0, g.x1, g.y1, S2, g.d⟩, .slice Ag ng kg)] := three_qv (q0 := ⟨r.op, r.id, r.a, r.b, r.x0, r.y0, r.x1, r.y1, S0, D0⟩) (q1 := g) (q2 := ⟨g.op, g.id, g.a, g.b, g.x0, g.y0, g.x1, g.y1, S2, g.d⟩) XX (sd.out.bl GX.out) (sg7.out.bl HX) (sg7.out.bl HX)
  have X5h := X5g.bl HX
  have sg8 := Lib.hid (sg7.out.bl HX)
  have hok : ∀ p ∈ [((⟨r.op, r.id, r.a, r.b, r.x0, r.y0, r.x1, r.y1, S0, D0⟩ : Rq), Value.slice Ad n0 cd), (g, .slice Ag ng kg), (⟨g.op, g.id, g.a, g.b, g.x0, g.y0, g.x1, g.y1, S2, g.d⟩, .slice Ag ng kg)], ByL p.1.d := by
    intro p hp
    simp only [List.mem_cons, List.not_mem_nil, or_false] at hp
    rcases hp with rfl | rfl | rfl
    · exact bd.out
    · exact bg.out
    · exact bg.out
  obtain ⟨X, hX⟩ : ∃ X, X = [((⟨r.op, r.id, r.a, r.b, r.x0, r.y0, r.x1, r.y1, S0, D0⟩ : Rq), Value.slice Ad n0 cd), (g, .slice Ag ng kg), (⟨g.op, g.id, g.a, g.b, g.x0, g.y0, g.x1, g.y1, S2, g.d⟩, .slice Ag ng kg)] := ⟨_, rfl⟩
  have hXl : X.length = 3 := by rw [hX]; rfl
  rw [← hX] at M0 hok
  replace hX := Lib.hid hX
  replace hXl := Lib.hid hXl
  replace M0 := Lib.hid M0
  replace hok := Lib.hid hok
  clear XX HX X2g X5g X6g G7 sg7
  go_wp2
  generalize w7.alloc (.cells #[.int .i64 r.op, .int .i64 r.id, .int .i64 r.a, .int .i64 r.b, .int .i64 r.x0, .int .i64 r.y0, .int .i64 r.x1, .int .i64 r.y1, .string S0, .slice Ad n0 cd, .int .i64 g.op, .int .i64 g.id, .int .i64 g.a, .int .i64 g.b, .int .i64 g.x0, .int .i64 g.y0, .int .i64 g.x1, .int .i64 g.y1, .string g.s, .slice Ag ng kg, .int .i64 g.op, .int .i64 g.id, .int .i64 g.a, .int .i64 g.b, .int .i64 g.x0, .int .i64 g.y0, .int .i64 g.x1, .int .i64 g.y1, .string S2, .slice Ag ng kg] 28) = w9 at *
  generalize w7.heap.size = b9 at *
  clear ak0 ak1 ak2 ak3 ak4 ak5 ak6 ak7 ak8 ak9 bk0 bk1 bk2 bk3 bk4 bk5 bk6 bk7 bk8 bk9 ck0 ck1 ck2 ck3 ck4 ck5 ck6 ck7 ck8 ck9
  obtain ⟨AX, hAX⟩ : ∃ AX, AX = (some ⟨b9, 0, none⟩ : Option Addr) := ⟨_, rfl⟩
  rw [← hAX] at M0 ⊢
  clear hAX
  generalize w1.heap.size = b5 at *
  go_loopw [8] (fun i wr => ∃ k : Nat, k ≤ 3 ∧ i = .int .i64 ((k : Nat) : Int) ∧ Bl w9 wr) (fun i _ => 3 - (intOf i).toNat)
  case atStart => exact ⟨0, by omega, rfl, Bl.refl _⟩
  case round =>
    obtain ⟨k, hk, rfl, G⟩ := hrel
    by_cases hlt : k < 3
    · have q1 : (k : Int) < 3 := by omega
      obtain ⟨bx, off, p, rfl, hp, x0, x1, x2, x3, x4, x5, x6, x7, x8, x9, sv⟩ := (M0.out.bl G).at (k := k) (by rw [hXl.out]; exact hlt)
      have hpy := hok.out p (List.mem_of_getElem? hp)
      obtain ⟨q, dv⟩ := p
      dsimp only at *
      obtain ⟨Aq, cq, rfl, hq⟩ := sv
      have sv : Sv wr (.slice Aq q.d.length cq) q.d := ⟨Aq, cq, rfl, hq⟩
      have cas := qas1 q Aq q.d.length cq
      have cen := fun V (g : Bl wr V) => enc1 q _ V (sv.bl g) hpy
      have crn := fun V (g : Bl wr V) => renc1 q _ V (sv.bl g) hpy
      have hmy := encR_by hpy
      have hed := fun h => (enc_dec (r := q) h).1
      unfold EncQ at cen crn
      generalize encR q = P at *
      obtain ⟨m, E⟩ := P
      dsimp only at *
      have csm := fun V d e (h1 : Sv V d m.body) (h2 : Sv V e m.body) => msame1 m m d e V h1 h2 hmy.1 hmy.1
      rw [sameM_refl] at csm
      have clk := fun V d e (h1 : Sv V d q.d) (h2 : Sv V e q.d) => qlike1 q q d e V h1 h2 hpy hpy
      have csq := fun V d e (h1 : Sv V d q.d) (h2 : Sv V e q.d) => qsame1 q q d e V h1 h2 hpy hpy
      rw [sameQ_refl] at clk csq
      unfold vQ at cas cen crn clk csq
      obtain ⟨nq, hnq⟩ : ∃ nq, nq = q.d.length := ⟨_, rfl⟩
      rw [← hnq] at sv cas cen crn x9
      replace hnq := Lib.hid hnq
      replace sv := Lib.hid sv
      replace hed := Lib.hid hed
      clear hq hp hpy M0 hok
      go_wp2_with fail
      refine (cas _).mono ?_
      rintro e w10 ⟨rfl, g10⟩
      have H10 := (Bl.refl wr).gr g10
      go_wp2_with fail
      refine (cen _ H10).mono ?_
      rintro e w11 ⟨v11, rfl, s11, g11⟩
      obtain ⟨A11, c11, rfl, t1, t2, t3, t4⟩ := s11
      have s11 : Sv w11 (.slice A11 m.body.length c11) m.body := ⟨A11, c11, rfl, t1, t2, t3, t4⟩
      obtain ⟨nm, hnm⟩ : ∃ nm, nm = m.body.length := ⟨_, rfl⟩
      rw [← hnm] at s11 ⊢
      replace hnm := Lib.hid hnm
      replace s11 := Lib.hid s11
      have H11 := (H10.trans g11).alloc (.cells #[.int .i64 m.op, .int .i64 m.id, .slice A11 nm c11] 24)
      have X9 := At.new w11 #[.int .i64 m.op, .int .i64 m.id, .slice A11 nm c11] 24
      have y0 := H11.keep x0
      have y1 := H11.keep x1
      have y2 := H11.keep x2
      have y3 := H11.keep x3
      have y4 := H11.keep x4
      have y5 := H11.keep x5
      have y6 := H11.keep x6
      have y7 := H11.keep x7
      have y8 := H11.keep x8
      have y9 := H11.keep x9
      dsimp only
      clear cen
      go_wp2_with fail
      refine (crn _ H11).mono ?_
      rintro e w12 ⟨v12, rfl, s12, g12⟩
      obtain ⟨A12, c12, rfl, u1⟩ := s12
      have s12 : Sv w12 (.slice A12 m.body.length c12) m.body := ⟨A12, c12, rfl, u1⟩
      rw [← hnm.out] at s12 ⊢
      have G12 := g12.alloc (.cells #[.int .i64 m.op, .int .i64 m.id, .slice A12 nm c12] 24)
      have H12 := H11.trans G12
      have X9b := X9.bl G12
      have X11 := At.new w12 #[.int .i64 m.op, .int .i64 m.id, .slice A12 nm c12] 24
      have s11b := s11.out.bl (((Bl.refl w11).alloc (.cells #[.int .i64 m.op, .int .i64 m.id, .slice A11 nm c11] 24)).trans G12)
      have s12b := s12.bl ((Bl.refl w12).alloc (.cells #[.int .i64 m.op, .int .i64 m.id, .slice A12 nm c12] 24))
      have t4b := t4.bl (((Bl.refl w11).alloc (.cells #[.int .i64 m.op, .int .i64 m.id, .slice A11 nm c11] 24)).trans G12)
      have csm1 := csm _ _ _ s11b s12b
      dsimp only
      have aak0 : ((w12.alloc (.cells #[.int .i64 m.op, .int .i64 m.id, .slice A12 nm c12] 24))).cell? ⟨w11.heap.size, 0, none⟩ = some (.int .i64 m.op) := (X9b.cell 0).trans rfl
      have aak1 : ((w12.alloc (.cells #[.int .i64 m.op, .int .i64 m.id, .slice A12 nm c12] 24))).cell? ⟨w11.heap.size, 1, none⟩ = some (.int .i64 m.id) := (X9b.cell 1).trans rfl
      have aak2 : ((w12.alloc (.cells #[.int .i64 m.op, .int .i64 m.id, .slice A12 nm c12] 24))).cell? ⟨w11.heap.size, 2, none⟩ = some (.slice A11 nm c11) := (X9b.cell 2).trans rfl
      have bbk0 : ((w12.alloc (.cells #[.int .i64 m.op, .int .i64 m.id, .slice A12 nm c12] 24))).cell? ⟨w12.heap.size, 0, none⟩ = some (.int .i64 m.op) := (X11.cell 0).trans rfl
      have bbk1 : ((w12.alloc (.cells #[.int .i64 m.op, .int .i64 m.id, .slice A12 nm c12] 24))).cell? ⟨w12.heap.size, 1, none⟩ = some (.int .i64 m.id) := (X11.cell 1).trans rfl
      have bbk2 : ((w12.alloc (.cells #[.int .i64 m.op, .int .i64 m.id, .slice A12 nm c12] 24))).cell? ⟨w12.heap.size, 2, none⟩ = some (.slice A12 nm c12) := (X11.cell 2).trans rfl
      clear u1 s12 s12b s11b s11 crn csm X9 X11 y0 y1 y2 y3 y4 y5 y6 y7 y8 y9
      go_wp2_with fail
      refine csm1.mono ?_
      rintro e w13 ⟨rfl, g13⟩
      have H13 := H12.gr g13
      by_cases hE : E = 0
      · subst hE
        have hd := hed.out rfl
        have cde := dec1 m A11 c11 w13 (t4b.bl g13.bl) t1 t2 t3 hmy.1 (by omega)
        rw [hd, ← hnm.out] at cde
        unfold DecQ vQ at cde
        dsimp only at cde
        have X9c := X9b.gr g13
        have cck0 : (w13).cell? ⟨w11.heap.size, 0, none⟩ = some (.int .i64 m.op) := (X9c.cell 0).trans rfl
        have cck1 : (w13).cell? ⟨w11.heap.size, 1, none⟩ = some (.int .i64 m.id) := (X9c.cell 1).trans rfl
        have cck2 : (w13).cell? ⟨w11.heap.size, 2, none⟩ = some (.slice A11 nm c11) := (X9c.cell 2).trans rfl
        clear hd hed hmy X9b X9c aak0 aak1 aak2 bbk0 bbk1 bbk2 csm1
        go_wp2_with fail
        refine cde.mono ?_
        rintro e w14 ⟨d14, rfl, i14, g14⟩
        have s14 := i14.sv
        obtain ⟨B14, k14, rfl, _⟩ := i14.sv
        rw [← hnq.out] at s14 ⊢
        have X14 := At.new w14 #[.int .i64 q.op, .int .i64 q.id, .int .i64 q.a, .int .i64 q.b, .int .i64 q.x0, .int .i64 q.y0, .int .i64 q.x1, .int .i64 q.y1, .string q.s, .slice B14 nq k14] 36
        have H14 := H13.trans g14
        have H15 := H14.alloc (.cells #[.int .i64 q.op, .int .i64 q.id, .int .i64 q.a, .int .i64 q.b, .int .i64 q.x0, .int .i64 q.y0, .int .i64 q.x1, .int .i64 q.y1, .string q.s, .slice B14 nq k14] 36)
        have s14b := s14.bl ((Bl.refl w14).alloc (.cells #[.int .i64 q.op, .int .i64 q.id, .int .i64 q.a, .int .i64 q.b, .int .i64 q.x0, .int .i64 q.y0, .int .i64 q.x1, .int .i64 q.y1, .string q.s, .slice B14 nq k14] 36))
        have s15 := sv.out.bl H15
        clear cde i14 s14 H14 cck0 cck1 cck2
        go_wp2
        generalize w14.alloc (.cells #[.int .i64 q.op, .int .i64 q.id, .int .i64 q.a, .int .i64 q.b, .int .i64 q.x0, .int .i64 q.y0, .int .i64 q.x1, .int .i64 q.y1, .string q.s, .slice B14 nq k14] 36) = w15 at *
        have SK : ∀ V, Bl w15 V → V.cell? ⟨w14.heap.size, 0, none⟩ = some (.int .i64 q.op) ∧ V.cell? ⟨w14.heap.size, 1, none⟩ = some (.int .i64 q.id) ∧ V.cell? ⟨w14.heap.size, 2, none⟩ = some (.int .i64 q.a) ∧ V.cell? ⟨w14.heap.size, 3, none⟩ = some (.int .i64 q.b) ∧ V.cell? ⟨w14.heap.size, 4, none⟩ = some (.int .i64 q.x0) ∧ V.cell? ⟨w14.heap.size, 5, none⟩ = some (.int .i64 q.y0) ∧ V.cell? ⟨w14.heap.size, 6, none⟩ = some (.int .i64 q.x1) ∧ V.cell? ⟨w14.heap.size, 7, none⟩ = some (.int .i64 q.y1) ∧ V.cell? ⟨w14.heap.size, 8, none⟩ = some (.string q.s) ∧ V.cell? ⟨w14.heap.size, 9, none⟩ = some (.slice B14 nq k14) ∧ V.cell? ⟨bx, off + k * 10, none⟩ = some (.int .i64 q.op) ∧ V.cell? ⟨bx, off + k * 10 + 1, none⟩ = some (.int .i64 q.id) ∧ V.cell? ⟨bx, off + k * 10 + 2, none⟩ = some (.int .i64 q.a) ∧ V.cell? ⟨bx, off + k * 10 + 3, none⟩ = some (.int .i64 q.b) ∧ V.cell? ⟨bx, off + k * 10 + 4, none⟩ = some (.int .i64 q.x0) ∧ V.cell? ⟨bx, off + k * 10 + 5, none⟩ = some (.int .i64 q.y0) ∧ V.cell? ⟨bx, off + k * 10 + 6, none⟩ = some (.int .i64 q.x1) ∧ V.cell? ⟨bx, off + k * 10 + 7, none⟩ = some (.int .i64 q.y1) ∧ V.cell? ⟨bx, off + k * 10 + 8, none⟩ = some (.string q.s) ∧ V.cell? ⟨bx, off + k * 10 + 9, none⟩ = some (.slice Aq nq cq) ∧ Bl w15 V := fun V g => ⟨((X14.bl g).cell 0).trans rfl, ((X14.bl g).cell 1).trans rfl, ((X14.bl g).cell 2).trans rfl, ((X14.bl g).cell 3).trans rfl, ((X14.bl g).cell 4).trans rfl, ((X14.bl g).cell 5).trans rfl, ((X14.bl g).cell 6).trans rfl, ((X14.bl g).cell 7).trans rfl, ((X14.bl g).cell 8).trans rfl, ((X14.bl g).cell 9).trans rfl, (H15.trans g).keep x0, (H15.trans g).keep x1, (H15.trans g).keep x2, (H15.trans g).keep x3, (H15.trans g).keep x4, (H15.trans g).keep x5, (H15.trans g).keep x6, (H15.trans g).keep x7, (H15.trans g).keep x8, (H15.trans g).keep x9, g⟩
        replace SK := Lib.hid SK
        have kl : ∀ V, Bl w15 V → _ := fun V g => clk V _ _ (s14b.bl g) (s15.bl g)
        have kq : ∀ V, Bl w15 V → _ := fun V g => csq V _ _ (s14b.bl g) (s15.bl g)
        clear s14b s15 clk csq
        go_region_held3 (fun V => V.cell? ⟨w14.heap.size, 0, none⟩ = some (.int .i64 q.op) ∧ V.cell? ⟨w14.heap.size, 1, none⟩ = some (.int .i64 q.id) ∧ V.cell? ⟨w14.heap.size, 2, none⟩ = some (.int .i64 q.a) ∧ V.cell? ⟨w14.heap.size, 3, none⟩ = some (.int .i64 q.b) ∧ V.cell? ⟨w14.heap.size, 4, none⟩ = some (.int .i64 q.x0) ∧ V.cell? ⟨w14.heap.size, 5, none⟩ = some (.int .i64 q.y0) ∧ V.cell? ⟨w14.heap.size, 6, none⟩ = some (.int .i64 q.x1) ∧ V.cell? ⟨w14.heap.size, 7, none⟩ = some (.int .i64 q.y1) ∧ V.cell? ⟨w14.heap.size, 8, none⟩ = some (.string q.s) ∧ V.cell? ⟨w14.heap.size, 9, none⟩ = some (.slice B14 nq k14) ∧ V.cell? ⟨bx, off + k * 10, none⟩ = some (.int .i64 q.op) ∧ V.cell? ⟨bx, off + k * 10 + 1, none⟩ = some (.int .i64 q.id) ∧ V.cell? ⟨bx, off + k * 10 + 2, none⟩ = some (.int .i64 q.a) ∧ V.cell? ⟨bx, off + k * 10 + 3, none⟩ = some (.int .i64 q.b) ∧ V.cell? ⟨bx, off + k * 10 + 4, none⟩ = some (.int .i64 q.x0) ∧ V.cell? ⟨bx, off + k * 10 + 5, none⟩ = some (.int .i64 q.y0) ∧ V.cell? ⟨bx, off + k * 10 + 6, none⟩ = some (.int .i64 q.x1) ∧ V.cell? ⟨bx, off + k * 10 + 7, none⟩ = some (.int .i64 q.y1) ∧ V.cell? ⟨bx, off + k * 10 + 8, none⟩ = some (.string q.s) ∧ V.cell? ⟨bx, off + k * 10 + 9, none⟩ = some (.slice Aq nq cq) ∧ Bl w15 V) ((refine SK.out _ ?_; repeat (first | with_reducible assumption | with_reducible exact Bl.refl _ | with_reducible exact (And.right (And.right (And.right (And.right (And.right (And.right (And.right (And.right (And.right (And.right (And.right (And.right (And.right (And.right (And.right (And.right (And.right (And.right (And.right (And.right (by assumption))))))))))))))))))))) | with_reducible exact Bl.trans (And.right (And.right (And.right (And.right (And.right (And.right (And.right (And.right (And.right (And.right (And.right (And.right (And.right (And.right (And.right (And.right (And.right (And.right (And.right (And.right (by assumption))))))))))))))))))))) (by assumption) | with_reducible exact Bl.gr (And.right (And.right (And.right (And.right (And.right (And.right (And.right (And.right (And.right (And.right (And.right (And.right (And.right (And.right (And.right (And.right (And.right (And.right (And.right (And.right (by assumption))))))))))))))))))))) (by assumption) | with_reducible apply Bl.drew))) ((first | (go_at_call 18; (refine (kl _ (And.right (And.right (And.right (And.right (And.right (And.right (And.right (And.right (And.right (And.right (And.right (And.right (And.right (And.right (And.right (And.right (And.right (And.right (And.right (And.right (by assumption)))))))))))))))))))))).mono ?_); rintro e V1 ⟨rfl, gg⟩; have V1G : Bl w15 V1 := Bl.gr (And.right (And.right (And.right (And.right (And.right (And.right (And.right (And.right (And.right (And.right (And.right (And.right (And.right (And.right (And.right (And.right (And.right (And.right (And.right (And.right (by assumption))))))))))))))))))))) gg) | (go_at_call 21; (refine (cas _).mono ?_); rintro e V2 ⟨rfl, gg⟩; have V2G : Bl w15 V2 := Bl.gr (And.right (And.right (And.right (And.right (And.right (And.right (And.right (And.right (And.right (And.right (And.right (And.right (And.right (And.right (And.right (And.right (And.right (And.right (And.right (And.right (by assumption))))))))))))))))))))) gg) | (go_at_call 23; (refine (kq _ (And.right (And.right (And.right (And.right (And.right (And.right (And.right (And.right (And.right (And.right (And.right (And.right (And.right (And.right (And.right (And.right (And.right (And.right (And.right (And.right (by assumption)))))))))))))))))))))).mono ?_); rintro e V3 ⟨rfl, gg⟩; have V3G : Bl w15 V3 := Bl.gr (And.right (And.right (And.right (And.right (And.right (And.right (And.right (And.right (And.right (And.right (And.right (And.right (And.right (And.right (And.right (And.right (And.right (And.right (And.right (And.right (by assumption))))))))))))))))))))) gg)))
        go_wp2
        go_roundw
        case rel => exact ⟨k + 1, by omega, by go_num, (G.trans H15).trans V3G⟩
        case measure => simp [intOf]; omega
      · have hEb : (E == 0) = false := by simpa using hE
        go_wp2
        go_roundw
        case rel => exact ⟨k + 1, by omega, by go_num, G.trans H13⟩
        case measure => simp [intOf]; omega
    · have q1 : ¬ (k : Int) < 3 := by omega
      have X5i := X5h.bl G
      have cas := qas1 g Ag ng kg
      unfold vQ at cas
      have dk0 : (wr).cell? ⟨b5, 0, none⟩ = some (.int .i64 g.op) := (X5i.cell 0).trans rfl
      have dk1 : (wr).cell? ⟨b5, 1, none⟩ = some (.int .i64 g.id) := (X5i.cell 1).trans rfl
      have dk2 : (wr).cell? ⟨b5, 2, none⟩ = some (.int .i64 g.a) := (X5i.cell 2).trans rfl
      have dk3 : (wr).cell? ⟨b5, 3, none⟩ = some (.int .i64 g.b) := (X5i.cell 3).trans rfl
      have dk4 : (wr).cell? ⟨b5, 4, none⟩ = some (.int .i64 g.x0) := (X5i.cell 4).trans rfl
      have dk5 : (wr).cell? ⟨b5, 5, none⟩ = some (.int .i64 g.y0) := (X5i.cell 5).trans rfl
      have dk6 : (wr).cell? ⟨b5, 6, none⟩ = some (.int .i64 g.x1) := (X5i.cell 6).trans rfl
      have dk7 : (wr).cell? ⟨b5, 7, none⟩ = some (.int .i64 g.y1) := (X5i.cell 7).trans rfl
      have dk8 : (wr).cell? ⟨b5, 8, none⟩ = some (.string g.s) := (X5i.cell 8).trans rfl
      have dk9 : (wr).cell? ⟨b5, 9, none⟩ = some (.slice Ag ng kg) := (X5i.cell 9).trans rfl
      go_wp2_with fail
      refine (cas _).mono ?_
      rintro e w10 ⟨rfl, g10⟩
      have ceg := heg w10 _ (sg8.out.bl (G.gr g10))
      clear heg dk0 dk1 dk2 dk3 dk4 dk5 dk6 dk7 dk8 dk9
      go_wp2_with fail
      refine ceg.mono ?_
      rintro e w11 ⟨v11, rfl, s11, g11⟩
      obtain ⟨A11, c11, rfl, _⟩ := s11
      generalize bb.length = nb at *
      go_wp2_with fail
      refine (cl _).mono ?_
      rintro e w20 ⟨rfl, g20⟩
      go_wp2
      go_ret
      exact ⟨by simp, ((GX.out.trans G).gr g10).trans ((g11.alloc _).trans g20)⟩

end Go.Proofs.YthkbenhlhldglaaDoor
