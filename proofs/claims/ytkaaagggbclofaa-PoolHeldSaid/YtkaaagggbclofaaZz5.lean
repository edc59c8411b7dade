/-
  What is proved: plain mathematics of rows: what is filled row by row is what is filled point by point, and how many points that are. what Copy of package image does, from one image to another one. what Copy of package image does, from any image, from itself too, and by any distance. No conditions but bounds. like of the statements tells an image that is the document's. nothing of its own: it hands on the document's Small of a rectangle. No conditions. the statement ImageCopies: what is copied there is told there, all else stays. No conditions. what hasAll and first of package image hand back, and where Write refuses. a region that draws its order, in a round of a range over a function: from the walk as anywhere. No conditions.
-/
import Derived.Test.YtkaaagggbclofaaZz4
import Derived.Test.YtkaaagggbclofaaZz2
import Derived.Laws.CopyOwn
import Derived.StillTailTactics
import Derived.Deep.RegionHeld3
import Derived.LoopTactic
import Derived.IntWalk
import Derived.Deep.DeepCutAuto
namespace Go.Proofs.Ytkaaagggbclofaa
open Go.RowKit Go.Sort

/-- What a rectangle has of an image's box. -/
theorem cut_nat (a b c d : Int) (W H : Nat) : ∃ x0 y0 x1 y1 : Nat, cutR a b c d 0 0 W H = ⟨x0, y0, x1, y1⟩ ∧ x0 ≤ x1 ∧ (y0 < y1 → x0 < x1) ∧ x1 ≤ W ∧ y0 ≤ y1 ∧ y1 ≤ H ∧
    ∀ i j : Nat, i < W → j < H → hasB a b c d i j = decide (x0 ≤ i ∧ i < x1 ∧ y0 ≤ j ∧ j < y1) := by
  by_cases e : emptyB (max a 0) (max b 0) (min c W) (min d H) = true
  · refine ⟨0, 0, 0, 0, by unfold cutR; rw [if_pos e]; rfl, by omega, by omega, by omega, by omega, by omega, fun i j hi hj => ?_⟩
    simp [emptyB] at e
    rw [hasB, Bool.eq_iff_iff]
    simp
    omega
  · have e' := e
    simp [emptyB] at e'
    refine ⟨(max a 0).toNat, (max b 0).toNat, (min c W).toNat, (min d H).toNat, ?_, by omega, by omega, by omega, by omega, by omega, fun i j hi hj => ?_⟩
    · unfold cutR; rw [if_neg e]
      rw [show (((max a 0).toNat : Nat) : Int) = max a 0 by omega, show (((max b 0).toNat : Nat) : Int) = max b 0 by omega, show (((min c W).toNat : Nat) : Int) = min c W by omega, show (((min d H).toNat : Nat) : Int) = min d H by omega]
    · rw [hasB, Bool.eq_iff_iff]
      simp
      omega

/-- Row y, from x0 up to x1: which places these are. -/
theorem row_iff {W x0 x1 y i : Nat} (hx : x0 ≤ x1) (hw : x1 ≤ W) (h1 : 1 ≤ W) : (y * W + x0 ≤ i ∧ i < y * W + x0 + (x1 - x0)) ↔ (i / W = y ∧ x0 ≤ i % W ∧ i % W < x1) := by
  have hd := Nat.div_add_mod i W
  have hm := Nat.mod_lt i (show W > 0 by omega)
  rw [Nat.mul_comm] at hd
  constructor
  · rintro ⟨h, k⟩
    have e : i / W = y := by
      rw [Nat.div_eq_iff (by omega)]
      have := Nat.add_mul y 1 W
      omega
    rw [e] at hd
    omega
  · rintro ⟨rfl, h, k⟩
    omega
theorem fillR_get (W x0 x1 : Nat) (q : Int) (hx : x0 ≤ x1) (hw : x1 ≤ W) (h1 : 1 ≤ W) : ∀ (ys : List Nat) (L : List Int) (i : Nat), (fillR W x0 x1 q L ys)[i]? = if i < L.length ∧ x0 ≤ i % W ∧ i % W < x1 ∧ i / W ∈ ys then some q else L[i]?
  | [], L, i => by rw [if_neg (by simp)]; rfl
  | y :: ys, L, i => by
    show (fillR W x0 x1 q (putRun L (y * W + x0) (List.replicate (x1 - x0) q)) ys)[i]? = _
    rw [fillR_get W x0 x1 q hx hw h1 ys, putRun_len, putRun_get, List.length_replicate]
    have r := row_iff (y := y) (i := i) hx hw h1
    by_cases h : i < L.length ∧ x0 ≤ i % W ∧ i % W < x1 ∧ i / W ∈ ys
    · rw [if_pos h, if_pos ⟨h.1, h.2.1, h.2.2.1, List.mem_cons_of_mem _ h.2.2.2⟩]
    · rw [if_neg h]
      by_cases k : y * W + x0 ≤ i ∧ i < y * W + x0 + (x1 - x0) ∧ i < L.length
      · obtain ⟨k1, k2, k3⟩ := r.1 ⟨k.1, k.2.1⟩
        rw [if_pos k, if_pos ⟨k.2.2, k2, k3, by rw [k1]; exact List.mem_cons_self⟩, List.getElem?_replicate, if_pos (by omega)]
      · rw [if_neg k, if_neg]
        rintro ⟨l1, l2, l3, l4⟩
        rcases List.mem_cons.1 l4 with l | l
        · have := r.2 ⟨l, l2, l3⟩; omega
        · exact h ⟨l1, l2, l3, l⟩
theorem mem_range'' (y y0 y1 : Nat) (h : y0 ≤ y1) : y ∈ List.range' y0 (y1 - y0) ↔ y0 ≤ y ∧ y < y1 := by
  rw [List.mem_range'_1]; omega
/-- What is filled row by row is filled point by point. -/
theorem fill_eq {W H x0 x1 y0 y1 : Nat} {q : Int} {L : List Int} {p : Nat → Nat → Bool} (hl : L.length = W * H) (h1 : 1 ≤ W) (hx : x0 ≤ x1) (hw : x1 ≤ W) (hy : y0 ≤ y1)
    (hp : ∀ i j : Nat, i < W → j < H → p i j = decide (x0 ≤ i ∧ i < x1 ∧ y0 ≤ j ∧ j < y1)) :
    fillR W x0 x1 q L (List.range' y0 (y1 - y0)) = upto (fun i => if p (i % W) (i / W) = true then q else L.getD i 0) L.length := by
  apply List.ext_getElem?
  intro i
  rw [fillR_get W x0 x1 q hx hw h1, upto_get]
  by_cases hi : i < L.length
  · obtain ⟨d1, d2, _⟩ := div_of (k := i) (H := H) h1 (by omega)
    rw [if_pos hi, hp _ _ d1 d2]
    by_cases h : x0 ≤ i % W ∧ i % W < x1 ∧ y0 ≤ i / W ∧ i / W < y1
    · rw [if_pos ⟨hi, h.1, h.2.1, (mem_range'' _ _ _ hy).2 h.2.2⟩, if_pos (by simpa using h)]
    · rw [if_neg (fun k => h ⟨k.2.1, k.2.2.1, (mem_range'' _ _ _ hy).1 k.2.2.2⟩), if_neg (by simpa using h), List.getElem?_eq_getElem hi, List.getD, List.getElem?_eq_getElem hi]; rfl
  · rw [if_neg (fun k => hi k.1), if_neg hi, List.getElem?_eq_none (by omega)]

theorem cnt_rows {W x0 x1 y0 y1 H : Nat} {p : Nat → Nat → Bool} (h1 : 1 ≤ W) (hx : x0 ≤ x1) (hw : x1 ≤ W) (hy : y0 ≤ y1)
    (hp : ∀ i j : Nat, i < W → j < H → p i j = decide (x0 ≤ i ∧ i < x1 ∧ y0 ≤ j ∧ j < y1)) :
    ∀ j : Nat, j ≤ H → cntI (fun i => p (i % W) (i / W)) (j * W) = (min j y1 - y0) * (x1 - x0) := by
  intro j
  induction j with
  | zero => intro _; simp [cntI]
  | succ j ih =>
    intro hj
    have row : ∀ i, i ≤ W → cntI (fun i => p (i % W) (i / W)) (j * W + i) = (min j y1 - y0) * (x1 - x0) + if y0 ≤ j ∧ j < y1 then min i x1 - x0 else 0 := by
      intro i
      induction i with
      | zero => intro _; rw [Nat.add_zero, ih (by omega)]; split <;> simp
      | succ i ih2 =>
        intro hi
        rw [← Nat.add_assoc, cntI_succ, ih2 (by omega)]
        have e1 : (j * W + i) % W = i := by rw [Nat.mul_comm, Nat.mul_add_mod]; exact Nat.mod_eq_of_lt (by omega)
        have e2 : (j * W + i) / W = j := by rw [Nat.mul_comm, Nat.mul_add_div (by omega), Nat.div_eq_of_lt (by omega), Nat.add_zero]
        rw [e1, e2, hp i j (by omega) (by omega)]
        by_cases h : y0 ≤ j ∧ j < y1
        · rw [if_pos h, if_pos h]
          by_cases k : x0 ≤ i ∧ i < x1
          · rw [if_pos (by simp; omega)]; omega
          · rw [if_neg (by simp; omega)]; omega
        · rw [if_neg h, if_neg h, if_neg (by simp; omega)]
    rw [Nat.add_mul, Nat.one_mul, row W (Nat.le_refl _)]
    by_cases h : y0 ≤ j ∧ j < y1
    · rw [if_pos h, show min (j + 1) y1 - y0 = (min j y1 - y0) + 1 by omega, Nat.add_mul]; omega
    · rw [if_neg h, show min (j + 1) y1 - y0 = min j y1 - y0 by omega]; omega
theorem cnt_area {W H x0 x1 y0 y1 : Nat} {p : Nat → Nat → Bool} (h1 : 1 ≤ W) (hx : x0 ≤ x1) (hw : x1 ≤ W) (hy : y0 ≤ y1) (hh : y1 ≤ H)
    (hp : ∀ i j : Nat, i < W → j < H → p i j = decide (x0 ≤ i ∧ i < x1 ∧ y0 ≤ j ∧ j < y1)) :
    ((cntI (fun i => p (i % W) (i / W)) (W * H) : Nat) : Int) = areaI x0 y0 x1 y1 := by
  rw [Nat.mul_comm, cnt_rows h1 hx hw hy hp H (Nat.le_refl _), show min H y1 = y1 by omega]
  unfold areaI
  rw [Int.natCast_mul, Int.mul_comm, Int.natCast_sub hx, Int.natCast_sub hy]

/-- Whether all of a rectangle's points are solid, point by point. -/
theorem rowS_iff (L : List Int) (p k : Nat) : rowS L p k = true ↔ ∀ i, p ≤ i → i < p + k → ∀ c, L[i]? = some c → pA c = 255 := by
  unfold rowS
  rw [List.all_eq_true]
  constructor
  · intro h i h1 h2 c hc
    have : c ∈ (L.drop p).take k := by
      apply List.mem_of_getElem? (i := i - p)
      rw [List.getElem?_take, if_pos (by omega), List.getElem?_drop, show p + (i - p) = i by omega, hc]
    simpa using h c this
  · intro h c hc
    obtain ⟨i, hi⟩ := List.getElem?_of_mem hc
    rw [List.getElem?_take] at hi
    split at hi
    · rename_i hk
      rw [List.getElem?_drop] at hi
      simpa using h (p + i) (by omega) (by omega) c hi
    · cases hi
theorem allS_iff {W H x0 x1 y0 y1 : Nat} {L : List Int} (_hl : L.length = W * H) (h1 : 1 ≤ W) (hx : x0 ≤ x1) (hw : x1 ≤ W) (hy : y0 ≤ y1) :
    allS W x0 x1 L (List.range' y0 (y1 - y0)) = true ↔ ∀ i c, L[i]? = some c → (x0 ≤ i % W ∧ i % W < x1 ∧ y0 ≤ i / W ∧ i / W < y1) → pA c = 255 := by
  unfold allS
  rw [List.all_eq_true]
  constructor
  · intro h i c hc ⟨k1, k2, k3, k4⟩
    have r := (row_iff (y := i / W) (i := i) hx hw h1).2 ⟨rfl, k1, k2⟩
    exact (rowS_iff _ _ _).1 (h (i / W) ((mem_range'' _ _ _ hy).2 ⟨k3, k4⟩)) i r.1 r.2 c hc
  · intro h y hy'
    rw [mem_range'' _ _ _ hy] at hy'
    rw [rowS_iff]
    intro i k1 k2 c hc
    obtain ⟨r1, r2, r3⟩ := (row_iff (y := y) (i := i) hx hw h1).1 ⟨k1, k2⟩
    exact h i c hc ⟨r2, r3, by omega, by omega⟩

end Go.Proofs.Ytkaaagggbclofaa
namespace Go.Proofs.Ytkaaagggbclofaa
open Go.RowKit Go.Sort

attribute [local go_sem ↓] run_min2 run_max2

theorem putRun_splice {L vs : List Int} {k : Nat} (h : k + vs.length ≤ L.length) : putRun L k vs = L.take k ++ (vs ++ L.drop (k + vs.length)) := by
  apply List.ext_getElem?
  intro i
  rw [putRun_get]
  by_cases h1 : i < k
  · rw [if_neg (by omega), List.getElem?_append_left (by rw [List.length_take]; omega), List.getElem?_take, if_pos h1]
  · rw [List.getElem?_append_right (by rw [List.length_take]; omega), List.length_take, show min k L.length = k by omega]
    by_cases h2 : i < k + vs.length
    · rw [if_pos (by omega), List.getElem?_append_left (by omega)]
    · rw [if_neg (by omega), List.getElem?_append_right (by omega), List.getElem?_drop, show k + vs.length + (i - k - vs.length) = i by omega]
/-- One row of an image, put into another. -/
def cpRow (W W2 u0 v0 x0 y0 m : Nat) (L2 F : List Int) (t : Nat) : List Int := putRun F ((v0 + t) * W + u0) ((L2.drop ((y0 + t) * W2 + x0)).take m)
def cpAll (W W2 u0 v0 x0 y0 m : Nat) (L2 F : List Int) (ts : List Nat) : List Int := ts.foldl (cpRow W W2 u0 v0 x0 y0 m L2) F
theorem cpAll_len (W W2 u0 v0 x0 y0 m : Nat) (L2 : List Int) : ∀ (ts : List Nat) (F : List Int), (cpAll W W2 u0 v0 x0 y0 m L2 F ts).length = F.length
  | [], _ => rfl
  | t :: ts, F => by
    show (cpAll W W2 u0 v0 x0 y0 m L2 (cpRow W W2 u0 v0 x0 y0 m L2 F t) ts).length = _
    rw [cpAll_len W W2 u0 v0 x0 y0 m L2 ts, cpRow, putRun_len]
theorem cpAll_snoc (W W2 u0 v0 x0 y0 m : Nat) (L2 F : List Int) (ts : List Nat) (t : Nat) : cpAll W W2 u0 v0 x0 y0 m L2 F (ts ++ [t]) = cpRow W W2 u0 v0 x0 y0 m L2 (cpAll W W2 u0 v0 x0 y0 m L2 F ts) t := by simp [cpAll]
theorem cpAll_get {W W2 u0 v0 x0 y0 m h : Nat} {L2 : List Int} (h1 : 1 ≤ W) (hm : u0 + m ≤ W) (hs : ∀ t, t < h → (y0 + t) * W2 + x0 + m ≤ L2.length) :
    ∀ (ts : List Nat) (F : List Int) (i : Nat), (∀ t ∈ ts, t < h) → (cpAll W W2 u0 v0 x0 y0 m L2 F ts)[i]? = if i < F.length ∧ u0 ≤ i % W ∧ i % W < u0 + m ∧ v0 ≤ i / W ∧ i / W - v0 ∈ ts then L2[(y0 + (i / W - v0)) * W2 + x0 + (i % W - u0)]? else F[i]?
  | [], F, i, _ => by rw [if_neg (by simp)]; rfl
  | t :: ts, F, i, hts => by
    show (cpAll W W2 u0 v0 x0 y0 m L2 (cpRow W W2 u0 v0 x0 y0 m L2 F t) ts)[i]? = _
    have hl := hs t (hts t List.mem_cons_self)
    have hvs : ((L2.drop ((y0 + t) * W2 + x0)).take m).length = m := by rw [List.length_take, List.length_drop]; omega
    rw [cpAll_get h1 hm hs ts _ i (fun t' h' => hts t' (List.mem_cons_of_mem _ h')), cpRow, putRun_len, putRun_get, hvs]
    have r := row_iff (x0 := u0) (x1 := u0 + m) (y := v0 + t) (i := i) (by omega) hm h1
    rw [show u0 + m - u0 = m by omega] at r
    by_cases k : i < F.length ∧ u0 ≤ i % W ∧ i % W < u0 + m ∧ v0 ≤ i / W ∧ i / W - v0 ∈ ts
    · rw [if_pos k, if_pos ⟨k.1, k.2.1, k.2.2.1, k.2.2.2.1, List.mem_cons_of_mem _ k.2.2.2.2⟩]
    · rw [if_neg k]
      by_cases q : (v0 + t) * W + u0 ≤ i ∧ i < (v0 + t) * W + u0 + m ∧ i < F.length
      · obtain ⟨q1, q2, q3⟩ := r.1 ⟨q.1, q.2.1⟩
        have e : i / W - v0 = t := by omega
        rw [if_pos q, if_pos ⟨q.2.2, q2, q3, by omega, by rw [e]; exact List.mem_cons_self⟩, List.getElem?_take, if_pos (by omega), List.getElem?_drop, e]
        congr 1
        have hd := Nat.div_add_mod i W
        rw [q1, Nat.mul_comm] at hd
        omega
      · rw [if_neg q, if_neg]
        rintro ⟨l1, l2, l3, l4, l5⟩
        rcases List.mem_cons.1 l5 with l | l
        · have := r.2 ⟨by omega, l2, l3⟩; omega
        · exact k ⟨l1, l2, l3, l4, l⟩

theorem step_copy_run {ops : Array Oper} {o : Oper} {a : Act} {w : World} {K : Act → World → Prop} {Q : Exit → Act → World → Prop} {E : Prop}
    (hg : o.guard = none) (d x : Operand) (dT sT : TypeId) (hop : o.op = Op.call { callee := Callee.builtin Builtin.copy, args := #[d, x], argTypes := #[dT, sT] })
    (v u : Value) (hd : a.eval d = v) (hx : a.eval x = u) {v' : Value} {w' : World} (hr : (Builtin.copy_ #[dT, sT] o.type #[v, u]).run Try.prog w = .ok v' w') (hK : K (a.put o.dst v') w') :
    if Region.wanted o (yielded ops a.tmps) = true then Oper.wp Try.prog o a w K Q else E := by
  have hw : Region.wanted o (yielded ops a.tmps) = true := by simp [Region.wanted, hg]
  rw [if_pos hw]
  unfold Oper.wp
  simp [execOp, hop, resolve, invoke, builtin, hd, hx, hr, Result.andThen]
  exact hK
theorem by_setRow {a b : World} {r : Nat} (h : a.grownBy b (some r)) (cs : Array Value) : a.grownBy (b.setRow r cs) (some r) :=
  ⟨h.os, h.tape, h.output, Nat.le_trans h.size (by simp [World.setRow]), fun k hk hne => (setRow_other b r k cs (by intro e; exact hne (by rw [e]))).trans (h.block k hk hne)⟩
theorem cC_list (L : List Int) : (cC L).toList = L.map (Value.int .u32) := by simp [cC]
theorem Img.setRow {w : World} {pm pc W H : Nat} {F vs : List Int} (h : Img w pm pc W H F) (k : Nat) (hk : k + vs.length ≤ F.length) :
    Img (w.setRow pc ((cC F).toList.take k ++ vs.map (Value.int .u32) ++ (cC F).toList.drop (k + vs.length)).toArray) pm pc W H (putRun F k vs) := by
  have hl : (putRun F k vs).length = F.length := putRun_len _ _ _
  have he : ((cC F).toList.take k ++ vs.map (Value.int .u32) ++ (cC F).toList.drop (k + vs.length)).toArray = cC (putRun F k vs) := by
    rw [cC_list, putRun_splice hk]
    simp [cC, List.map_take, List.map_drop]
  rw [he]
  refine { h with hd := ?_, cs := ?_, len := hl.trans h.len }
  · rw [hl]; exact h.hd.same (setRow_other _ _ _ _ h.ne)
  · exact setRow_heap w pc _ _ _ _ h.cs
theorem copy_run {w : World} {pm pc W H : Nat} {F : List Int} (h : Img w pm pc W H F) (pc2 k k2 dc sc : Nat) (_L2 vs : List Int) (hR : ∀ j x, vs[j]? = some x → w.cell? ⟨pc2, k2 + j, none⟩ = some (.int .u32 x)) (hk : k + vs.length ≤ F.length) :
    (Builtin.copy_ #[76, 76] 3 #[.slice (some ⟨pc, k, none⟩) vs.length dc, .slice (some ⟨pc2, k2, none⟩) vs.length sc]).run Try.prog w =
      .ok (goInt vs.length) (w.setRow pc ((cC F).toList.take k ++ vs.map (Value.int .u32) ++ (cC F).toList.drop (k + vs.length)).toArray) := by
  have := run_copy_row (P := Try.prog) w 76 76 3 56 pc k vs.length dc ⟨pc2, k2, none⟩ vs.length sc (cC F) 56 (vs.map (Value.int .u32)) Try.underlying76 (by kernel_rfl) h.cs (by simp)
    (rowN_add (k := .u32) hR) (by simp [cC]; simpa using hk) (one_int _ _)
  simpa using this

end Go.Proofs.Ytkaaagggbclofaa
namespace Go.Proofs.Ytkaaagggbclofaa
open Go.RowKit Go.Sort

attribute [local go_sem ↓] run_min2 run_max2

end Go.Proofs.Ytkaaagggbclofaa
namespace Go.Proofs.Ytkaaagggbclofaa
open Go.RowKit Go.Sort Go.Deep

theorem ImgX.cellsG {w : World} {pm pc W H : Nat} {L : List Int} {X : List Value} (h : ImgX w pm pc W H L X) (n : Nat) (os : Array Obj) : ImgX (Go.Sort.grow (w.drewN n) os) pm pc W H L X := h.gr (((Gr.refl w).drewN n).grow os)
theorem Img.cellsG {w : World} {pm pc W H : Nat} {L : List Int} (h : Img w pm pc W H L) (n : Nat) (os : Array Obj) : Img (Go.Sort.grow (w.drewN n) os) pm pc W H L := h.gr (((Gr.refl w).drewN n).grow os)

end Go.Proofs.Ytkaaagggbclofaa

namespace Go.Proofs.Ytkaaagggbclofaa
open Go.ChangeShapes Go.WideShapes Go.ChangeAt Go.RowKit Go.Joins Go.Sort

/-- What of a rectangle of one image goes into another one. -/
theorem cut_shift (a0 b0 a1 b1 W H W2 H2 : Nat) (dx dy : Int) (ha : a0 ≤ a1) (hb : b0 ≤ b1) (hw : a1 ≤ W2) (hh : b1 ≤ H2) (_hab : b0 < b1 → a0 < a1) (W1 : 1 ≤ W) (H1 : 1 ≤ H) :
    ∃ x0 y0 x1 y1 u0 v0 : Nat, cutR a0 b0 a1 b1 (-dx) (-dy) (W - dx) (H - dy) = ⟨x0, y0, x1, y1⟩ ∧ x0 ≤ x1 ∧ (y0 < y1 → x0 < x1) ∧ y0 ≤ y1 ∧ x1 ≤ W2 ∧ y1 ≤ H2 ∧
      (y0 < y1 → (u0 : Int) = x0 + dx ∧ (v0 : Int) = y0 + dy ∧ u0 + (x1 - x0) ≤ W ∧ v0 + (y1 - y0) ≤ H) ∧
      ∀ p q : Nat, p < W → q < H → ((a0 : Int) ≤ p - dx ∧ (p : Int) - dx < a1 ∧ (b0 : Int) ≤ q - dy ∧ (q : Int) - dy < b1 ↔ y0 < y1 ∧ u0 ≤ p ∧ p < u0 + (x1 - x0) ∧ v0 ≤ q ∧ q < v0 + (y1 - y0)) := by
  by_cases e : emptyB (max a0 (-dx)) (max b0 (-dy)) (min a1 (W - dx)) (min b1 (H - dy)) = true
  · refine ⟨0, 0, 0, 0, 0, 0, by unfold cutR; rw [if_pos e]; rfl, by omega, by omega, by omega, by omega, by omega, by omega, fun p q hp hq => ?_⟩
    simp [emptyB] at e
    omega
  · have e' := e
    simp [emptyB] at e'
    refine ⟨(max (a0 : Int) (-dx)).toNat, (max (b0 : Int) (-dy)).toNat, (min (a1 : Int) (W - dx)).toNat, (min (b1 : Int) (H - dy)).toNat, (max (a0 : Int) (-dx) + dx).toNat, (max (b0 : Int) (-dy) + dy).toNat, ?_, by omega, by omega, by omega, by omega, by omega, by omega, fun p q hp hq => by omega⟩
    unfold cutR; rw [if_neg e]
    rw [show (((max (a0 : Int) (-dx)).toNat : Nat) : Int) = max (a0 : Int) (-dx) by omega, show (((max (b0 : Int) (-dy)).toNat : Nat) : Int) = max (b0 : Int) (-dy) by omega, show (((min (a1 : Int) (W - dx)).toNat : Nat) : Int) = min (a1 : Int) (W - dx) by omega, show (((min (b1 : Int) (H - dy)).toNat : Nat) : Int) = min (b1 : Int) (H - dy) by omega]

/-- What an image of copied rows has at a point. -/
theorem cp_point {W H W2 x0 y0 x1 y1 u0 v0 : Nat} {L L2 : List Int} {dx dy : Int} {ts : List Nat} (hl : L.length = W * H) (w1 : 1 ≤ W) (hx : y0 < y1 → x0 < x1) (_hw : x1 ≤ W2) (hL2 : ∀ y, y < y1 → y * W2 + x1 ≤ L2.length)
    (hu : y0 < y1 → (u0 : Int) = x0 + dx ∧ (v0 : Int) = y0 + dy ∧ u0 + (x1 - x0) ≤ W) (hts : ∀ t, t ∈ ts ↔ t < y1 - y0) {k : Nat} (hk : k < W * H) :
    (cpAll W W2 u0 v0 x0 y0 (x1 - x0) L2 L ts)[k]? = if y0 < y1 ∧ u0 ≤ k % W ∧ k % W < u0 + (x1 - x0) ∧ v0 ≤ k / W ∧ k / W < v0 + (y1 - y0) then L2[((k / W : Nat) - dy).toNat * W2 + ((k % W : Nat) - dx).toNat]? else L[k]? := by
  by_cases hy : y0 < y1
  · obtain ⟨h1, h2, h3⟩ := hu hy
    have hxx := hx hy
    rw [cpAll_get (h := y1 - y0) w1 h3 (fun t ht => by have := hL2 (y0 + t) (by omega); omega) ts L k (fun t ht => (hts t).1 ht)]
    by_cases c : u0 ≤ k % W ∧ k % W < u0 + (x1 - x0) ∧ v0 ≤ k / W ∧ k / W < v0 + (y1 - y0)
    · rw [if_pos ⟨by omega, c.1, c.2.1, c.2.2.1, (hts _).2 (by omega)⟩, if_pos ⟨hy, c⟩]
      rw [show y0 + (k / W - v0) = ((k / W : Nat) - dy).toNat by omega, Nat.add_assoc, show x0 + (k % W - u0) = ((k % W : Nat) - dx).toNat by omega]
    · rw [if_neg (fun q => c ⟨q.2.1, q.2.2.1, q.2.2.2.1, by have := (hts _).1 q.2.2.2.2; omega⟩), if_neg (fun q => c q.2)]
  · rw [if_neg (fun q => hy q.1)]
    have : ts = [] := by
      cases ts with
      | nil => rfl
      | cons t ts => have := (hts t).1 List.mem_cons_self; omega
    subst this; rfl

theorem lt16 {i W : Nat} (h : i < W) (k : W ≤ 16) : (i : Int) < 16 := by omega
theorem d12 {a d : Int} (h : a - 12 = d) (h1 : 0 ≤ a) (h2 : a < 25) : -12 ≤ d ∧ d ≤ 12 := by omega
theorem row_in {W H x1 y1 : Nat} {L2 : List Int} (hl : L2.length = H * W) (hx : x1 ≤ H) (hy : y1 ≤ W) : ∀ y, y < y1 → y * H + x1 ≤ L2.length := by
  intro q hq
  have h := Nat.mul_le_mul_right H (show q + 1 ≤ W by omega)
  rw [Nat.add_mul, Nat.mul_comm W H] at h
  rw [hl]; omega
/-- What the law finds at a point. -/
theorem cp_cases {W H i j a0 b0 a1 b1 x0 x1 y0 y1 u0 v0 : Nat} {sa sb sc sd dx dy cl1 : Int} {F2 : List Int} {X : Option Int} (hl : F2.length = H * W) (ha : a1 ≤ H) (hb : b1 ≤ W) (hi : i < W) (hj : j < H)
    (h1 : ∀ p q : Nat, p < H → q < W → hasB sa sb sc sd p q = decide (a0 ≤ p ∧ p < a1 ∧ b0 ≤ q ∧ q < b1))
    (h2 : ∀ p q : Nat, p < W → q < H → ((a0 : Int) ≤ p - dx ∧ (p : Int) - dx < a1 ∧ (b0 : Int) ≤ q - dy ∧ (q : Int) - dy < b1 ↔ y0 < y1 ∧ u0 ≤ p ∧ p < u0 + (x1 - x0) ∧ v0 ≤ q ∧ q < v0 + (y1 - y0)))
    (hX : X = if y0 < y1 ∧ u0 ≤ i ∧ i < u0 + (x1 - x0) ∧ v0 ≤ j ∧ j < v0 + (y1 - y0) then F2[((j : Int) - dy).toNat * H + ((i : Int) - dx).toNat]? else some cl1) :
    (hasB 0 0 H W ((i : Int) - dx) ((j : Int) - dy) = false ∧ X = some cl1) ∨ ∃ (p q : Nat) (cl2 : Int), p < H ∧ q < W ∧ (i : Int) - dx = p ∧ (j : Int) - dy = q ∧ F2[q * H + p]? = some cl2 ∧
      ((hasB sa sb sc sd ((i : Int) - dx) ((j : Int) - dy) = true ∧ X = some cl2) ∨ (hasB sa sb sc sd ((i : Int) - dx) ((j : Int) - dy) = false ∧ X = some cl1)) := by
  have h2' := h2 i j hi hj
  simp only [← h2'] at hX
  clear h2 h2'
  generalize hpx : (i : Int) - dx = px at *
  generalize hqy : (j : Int) - dy = qy at *
  by_cases hh : hasB 0 0 H W px qy = true
  · right
    simp [hasB] at hh
    refine ⟨px.toNat, qy.toNat, ?_⟩
    have hp : px.toNat < H := by omega
    have hq : qy.toNat < W := by omega
    obtain ⟨cl2, hc⟩ := list_at (l := F2) (k := qy.toNat * H + px.toNat) (by rw [hl]; exact row_of hp hq)
    refine ⟨cl2, hp, hq, by omega, by omega, hc, ?_⟩
    have := h1 px.toNat qy.toNat hp hq
    rw [show ((px.toNat : Nat) : Int) = px by omega, show ((qy.toNat : Nat) : Int) = qy by omega] at this
    rw [this, hX]
    by_cases c : a0 ≤ px.toNat ∧ px.toNat < a1 ∧ b0 ≤ qy.toNat ∧ qy.toNat < b1
    · left; rw [if_pos (by omega)]; exact ⟨by simpa using c, hc⟩
    · right; rw [if_neg (by omega)]; exact ⟨by simpa using c, rfl⟩
  · left
    refine ⟨by simpa using hh, ?_⟩
    simp [hasB] at hh
    rw [hX, if_neg]
    intro c; omega

end Go.Proofs.Ytkaaagggbclofaa
namespace Go.Proofs.Ytkaaagggbclofaa
open Go.RowKit Go.Sort Go.Deep

attribute [local go_sem] cell?_grow frozen?_grow nlt_r

set_option maxHeartbeats 2000000 in
theorem hasAll1 {pm pc W H : Nat} {L : List Int} (w : World) (hI : Img w pm pc W H L) (a b c d : Int) :
    Calls Try.prog 40 #[.pointer (some ⟨pm, 0, none⟩), .agg #[.int .i64 a, .int .i64 b, .int .i64 c, .int .i64 d]] w (Rt w (.bool (!emptyB a b c d && coversB 0 0 W H a b c d))) := by
  have mixed : Try.prog.follows .mixedOrders = true := by kernel_rfl
  have R0 := At.new w #[.int .i64 a, .int .i64 b, .int .i64 c, .int .i64 d] 31
  have G0 := (Gr.refl w).alloc (.cells #[.int .i64 a, .int .i64 b, .int .i64 c, .int .i64 d] 31)
  have I0 := hI.gr G0
  have ce := fun w => empty1 a b c d w
  have cv := fun w => covers1 0 0 W H a b c d w
  clear hI
  cases h : emptyB a b c d <;> rw [h] at ce
  all_goals
    go_enter Try.func40, Try.ntmps40
    go_wp2
    obtain ⟨V, hV⟩ : ∃ V, V = w.alloc (.cells #[.int .i64 a, .int .i64 b, .int .i64 c, .int .i64 d] 31) := ⟨_, rfl⟩
    rw [← hV] at R0 G0 I0 ⊢
    clear hV
    generalize w.heap.size = br at R0 ⊢
    have e0 := fun q os => R0.cells q os 0; have e1 := fun q os => R0.cells q os 1; have e2 := fun q os => R0.cells q os 2; have e3 := fun q os => R0.cells q os 3
    simp at e0 e1 e2 e3
    have cb := fun q os => box1 _ (I0.cellsG q os)
    refine wp_region_quiet_grown (by kernel_rfl) (by kernel_rfl) ?_
    repeat (first | go_big_quiet_step (first | (go_at_call 52; exact Calls.grown (ce _)) | (go_at_call 30; exact Calls.grown (cb _ _)) | (go_at_call 53; exact Calls.grown (cv _))) | quiet_step (first | (go_at_call 52; exact Calls.grown (ce _)) | (go_at_call 30; exact Calls.grown (cb _ _)) | (go_at_call 53; exact Calls.grown (cv _))))
    refine wpQuiet_nil ?_
    intro W2 g8
    replace g8 : Gr _ W2 := g8
    go_wp2
    go_ret
    exact ⟨by simp, G0.trans g8⟩

/-- The color of four bytes. -/
def colB (b0 b1 b2 b3 : Int) : Int := b0 * 16777216 + b1 * 65536 + b2 * 256 + b3
set_option maxHeartbeats 2000000 in
theorem first1 (w : World) (g off n c : Nat) (b0 b1 b2 b3 : Int) (hn : 4 ≤ n) (h0 : w.cell? ⟨g, off, none⟩ = some (.int .u8 b0)) (h1 : w.cell? ⟨g, off + 1, none⟩ = some (.int .u8 b1)) (h2 : w.cell? ⟨g, off + 2, none⟩ = some (.int .u8 b2)) (h3 : w.cell? ⟨g, off + 3, none⟩ = some (.int .u8 b3))
    (u0 : U8 b0) (u1 : U8 b1) (u2 : U8 b2) (u3 : U8 b3) :
    Calls Try.prog 43 #[.slice (some ⟨g, off, none⟩) n c] w (fun e w' => e = .returned (.int .u32 (colB b0 b1 b2 b3)) ∧ ∃ q, w' = w.drewN q) := by
  obtain ⟨u00, u01⟩ := u0
  obtain ⟨u10, u11⟩ := u1
  obtain ⟨u20, u21⟩ := u2
  obtain ⟨u30, u31⟩ := u3
  go_enter Try.func43, Try.ntmps43
  go_wp2
  go_quiet (fail)
  go_wp2
  have e1 : bits .or .u32 (b0 * 16777216) (b1 * 65536) = b0 * 16777216 + b1 * 65536 := bits_join .u32 32 (by decide) (fun n h h' => by rw [IntKind.wrap_u32]; omega) 24 _ _ (by omega) (by omega) (by omega) (by omega) (by omega) (by omega)
  have e2 : bits .or .u32 (b0 * 16777216 + b1 * 65536) (b2 * 256) = b0 * 16777216 + b1 * 65536 + b2 * 256 := bits_join .u32 32 (by decide) (fun n h h' => by rw [IntKind.wrap_u32]; omega) 16 _ _ (by omega) (by omega) (by omega) (by omega) (by omega) (by omega)
  have e3 : bits .or .u32 (b0 * 16777216 + b1 * 65536 + b2 * 256) b3 = colB b0 b1 b2 b3 := bits_join .u32 32 (by decide) (fun n h h' => by rw [IntKind.wrap_u32]; omega) 8 _ _ (by omega) (by omega) (by omega) (by omega) (by omega) (by omega)
  rw [e1, e2, e3]
  go_ret
  exact ⟨rfl, _, rfl⟩

/-- The k-th color of bytes. -/
def colAt (bs : List Int) (k : Nat) : Int := colB (bs.getD (4 * k) 0) (bs.getD (4 * k + 1) 0) (bs.getD (4 * k + 2) 0) (bs.getD (4 * k + 3) 0)
theorem colB_c32 {b0 b1 b2 b3 : Int} (u0 : U8 b0) (u1 : U8 b1) (u2 : U8 b2) (u3 : U8 b3) : C32 (colB b0 b1 b2 b3) := by
  unfold U8 at *; unfold C32 colB; omega
theorem getD_mem {P : Int → Prop} {bs : List Int} (h : ∀ x ∈ bs, P x) {i : Nat} (hi : i < bs.length) : P (bs.getD i 0) := by
  rw [List.getD, List.getElem?_eq_getElem hi]; exact h _ (List.getElem_mem hi)
theorem getD_get {bs : List Int} {i : Nat} (hi : i < bs.length) : bs[i]? = some (bs.getD i 0) := by
  rw [List.getD, List.getElem?_eq_getElem hi]; rfl
theorem colAt_c32 {bs : List Int} (h : ∀ x ∈ bs, U8 x) {k : Nat} (hk : 4 * k + 3 < bs.length) : C32 (colAt bs k) :=
  colB_c32 (getD_mem h (by omega)) (getD_mem h (by omega)) (getD_mem h (by omega)) (getD_mem h (by omega))
theorem may_in {a b c d : Int} {W H : Nat} (h : (!emptyB a b c d && coversB 0 0 W H a b c d) = true) (w2 : W ≤ 256) (h2 : H ≤ 256) : mayB a b c d = true ∧ 0 ≤ a ∧ a < c ∧ c ≤ W ∧ 0 ≤ b ∧ b < d ∧ d ≤ H := by
  simp [emptyB, coversB] at h
  obtain ⟨⟨h1, h2'⟩, h3⟩ := h
  rcases h3 with h3 | h3
  · omega
  · refine ⟨?_, by omega⟩
    simp [mayB]; omega

set_option maxHeartbeats 2000000 in
theorem writeR {pm pc W H : Nat} {L : List Int} (w : World) (hI : Img w pm pc W H L) (a b c d : Int) (A : Option Addr) (n cb : Nat) (h : (!emptyB a b c d && coversB 0 0 W H a b c d) = false) :
    Calls Try.prog 33 #[.pointer (some ⟨pm, 0, none⟩), .agg #[.int .i64 a, .int .i64 b, .int .i64 c, .int .i64 d], .slice A n cb] w (Rt w (.int .i64 4)) := by
  have G0 := ((Gr.refl w).alloc (.cells #[.int .i64 a, .int .i64 b, .int .i64 c, .int .i64 d] 31)).alloc (.cells #[.slice A n cb] 32)
  have ca := hasAll1 _ (hI.gr G0) a b c d
  rw [h] at ca
  go_enter Try.func33, Try.ntmps33
  go_wp2_with fail
  refine ca.mono ?_
  rintro e w1 ⟨rfl, g1⟩
  go_wp2
  go_ret
  exact ⟨rfl, G0.trans g1⟩

set_option maxHeartbeats 2000000 in
theorem writeL {pm pc W H : Nat} {L : List Int} (w : World) (hI : Img w pm pc W H L) (a b c d : Int) (A : Option Addr) (n cb : Nat) (h : (!emptyB a b c d && coversB 0 0 W H a b c d) = true) (_hn : n ≤ 1000000000000) (v : Int)
    (hv : ((n : Int) < 4 * areaI a b c d ∧ v = 3) ∨ (4 * areaI a b c d < (n : Int) ∧ v = 2)) :
    Calls Try.prog 33 #[.pointer (some ⟨pm, 0, none⟩), .agg #[.int .i64 a, .int .i64 b, .int .i64 c, .int .i64 d], .slice A n cb] w (Rt w (.int .i64 v)) := by
  obtain ⟨hmay, hb⟩ := may_in h hI.w2 hI.h2
  have hbd := area_bd hmay
  have R0 := (At.new w #[.int .i64 a, .int .i64 b, .int .i64 c, .int .i64 d] 31).alloc (.cells #[.slice A n cb] 32)
  have S0 := At.newAt (w := w.alloc (.cells #[.int .i64 a, .int .i64 b, .int .i64 c, .int .i64 d] 31)) (n := w.heap.size + 1) (by simp) #[.slice A n cb] 32
  have G0 := ((Gr.refl w).alloc (.cells #[.int .i64 a, .int .i64 b, .int .i64 c, .int .i64 d] 31)).alloc (.cells #[.slice A n cb] 32)
  have ca := hasAll1 _ (hI.gr G0) a b c d
  rw [h] at ca
  have cr := fun w => area1 a b c d w hmay
  change 0 ≤ areaI a b c d ∧ areaI a b c d ≤ 4398046511104 at hbd
  obtain ⟨hbd1, hbd2⟩ := hbd
  clear h hI hb hmay
  generalize areaI a b c d = ar at *
  rcases hv with ⟨hv, rfl⟩ | ⟨hv, rfl⟩
  all_goals
    go_enter Try.func33, Try.ntmps33
    go_wp2_with fail
    refine ca.mono ?_
    rintro e w1 ⟨rfl, g1⟩
    obtain ⟨r0, r1, r2, r3⟩ := cells4 (R0.gr g1)
    go_wp2_with fail
    refine (cr _).mono ?_
    rintro e w2 ⟨rfl, g2⟩
    have s0 : w2.cell? ⟨w.heap.size + 1, 0, none⟩ = some (.slice A n cb) := ((S0.gr g1).gr g2).cell 0
    clear r0 r1 r2 r3
    go_wp2
    go_ret
    exact ⟨rfl, (G0.trans g1).trans g2⟩

set_option maxRecDepth 100000 in
set_option maxHeartbeats 2000000 in
theorem writeA {pm pc W H : Nat} {L : List Int} (w : World) (hI : Img w pm pc W H L) (a b c d : Int) (A : Option Addr) (bs : List Int) (cb : Nat) (h : (!emptyB a b c d && coversB 0 0 W H a b c d) = true) (hA : Ns .u8 w A bs) (h8 : ∀ x ∈ bs, U8 x) (hcb : bs.length ≤ cb) (_hc2 : cb ≤ maxLen) (hn : (bs.length : Int) = 4 * areaI a b c d) (hn2 : bs.length ≤ 1000000) (kb : Nat) (hkb : 4 * kb + 3 < bs.length) (hbad : mayC (colAt bs kb) = false) (hok : ∀ j, j < kb → mayC (colAt bs j) = true) :
    Calls Try.prog 33 #[.pointer (some ⟨pm, 0, none⟩), .agg #[.int .i64 a, .int .i64 b, .int .i64 c, .int .i64 d], .slice A bs.length cb] w (Rt w (.int .i64 1)) := by
  obtain ⟨hmay, hb⟩ := may_in h hI.w2 hI.h2
  rcases hA with hA | ⟨g, off, rfl, hA⟩
  · subst hA; simp at hkb
  have hbl : g < w.heap.size := World.block_lt_of_cell? w _ (hA 0 _ (getD_get (by omega)))
  have R0 := (At.new w #[.int .i64 a, .int .i64 b, .int .i64 c, .int .i64 d] 31).alloc (.cells #[.slice (some ⟨g, off, none⟩) bs.length cb] 32)
  have S0 := At.newAt (w := w.alloc (.cells #[.int .i64 a, .int .i64 b, .int .i64 c, .int .i64 d] 31)) (n := w.heap.size + 1) (by simp) #[.slice (some ⟨g, off, none⟩) bs.length cb] 32
  have G0 := ((Gr.refl w).alloc (.cells #[.int .i64 a, .int .i64 b, .int .i64 c, .int .i64 d] 31)).alloc (.cells #[.slice (some ⟨g, off, none⟩) bs.length cb] 32)
  have ca := hasAll1 _ (hI.gr G0) a b c d
  rw [h] at ca
  have cr := fun w => area1 a b c d w hmay
  have hA0 := hA.gr G0
  have h88 := Lib.hid h8
  have hok' := Lib.hid hok
  have hget : ∀ i, i < bs.length → bs[i]? = some (bs.getD i 0) := fun i hi => getD_get hi
  clear h hI hb hmay h8 hok hA
  generalize areaI a b c d = ar at *
  obtain ⟨n, hnn⟩ : ∃ n, n = bs.length := ⟨_, rfl⟩
  rw [← hnn] at hn hkb hcb hget R0 S0 G0 ca hA0 ⊢
  have hnn' := Lib.hid hnn
  have hgett := Lib.hid hget
  have hle : n ≤ 1000000 := by omega
  clear hget hnn hn2
  have har1 : 4 * ar ≤ (n : Int) := by omega
  have har2 : (n : Int) ≤ 4 * ar := by omega
  have hbar1 : 0 ≤ ar := by omega
  have hbar2 : ar ≤ 1000000 := by omega
  clear hn
  go_enter Try.func33, Try.ntmps33
  go_wp2_with fail
  refine ca.mono ?_
  rintro e w1 ⟨rfl, g1⟩
  obtain ⟨r0, r1, r2, r3⟩ := cells4 (R0.gr g1)
  go_wp2_with fail
  refine (cr _).mono ?_
  rintro e w2 ⟨rfl, g2⟩
  have S2 := (S0.gr g1).gr g2
  have s0 : w2.cell? ⟨w.heap.size + 1, 0, none⟩ = some (.slice (some ⟨g, off, none⟩) n cb) := S2.cell 0
  have G2 := (G0.trans g1).trans g2
  have hA2 := (hA0.gr g1).gr g2
  clear r0 r1 r2 r3
  go_wp2_with fail
  go_loopw [8] (fun i wr => ∃ k : Nat, k ≤ kb ∧ i = .int .i64 (4 * k : Nat) ∧ Gr w2 wr) (fun i _ => n - (intOf i).toNat)
  case atStart => exact ⟨0, Nat.zero_le _, rfl, Gr.refl _⟩
  case round =>
    obtain ⟨k, hk, rfl, Gk⟩ := hrel
    obtain ⟨j, hj⟩ : ∃ j, j = 4 * k := ⟨_, rfl⟩
    have hjn : j + 3 < n := by omega
    have Ak := hA2.gr Gk
    have q0 := Ak j _ (hgett.out j (by omega)); have q1 := Ak (j + 1) _ (hgett.out (j + 1) (by omega)); have q2 := Ak (j + 2) _ (hgett.out (j + 2) (by omega)); have q3 := Ak (j + 3) _ (hgett.out (j + 3) (by omega))
    have mem := fun i (hi : i < n) => getD_mem h88.out (show i < bs.length by rw [← hnn'.out]; exact hi)
    have cf := first1 wr g (off + j) (n - j) (cb - j) _ _ _ _ (by omega) q0 (by rw [Nat.add_assoc]; exact q1) (by rw [Nat.add_assoc]; exact q2) (by rw [Nat.add_assoc]; exact q3) (mem _ (by omega)) (mem _ (by omega)) (mem _ (by omega)) (mem _ (by omega))
    have hcol : colB (bs.getD j 0) (bs.getD (j + 1) 0) (bs.getD (j + 2) 0) (bs.getD (j + 3) 0) = colAt bs k := by rw [hj]; rfl
    rw [hcol] at cf
    have c32 := colAt_c32 h88.out (k := k) (by rw [← hnn'.out]; omega)
    have cm := fun w => cmay1 (colAt bs k) w c32
    have s1 : wr.cell? ⟨w.heap.size + 1, 0, none⟩ = some (.slice (some ⟨g, off, none⟩) n cb) := (S2.gr Gk).cell 0
    rw [← hj]
    have hj' := Lib.hid hj
    clear hj q0 q1 q2 q3 mem hcol
    rcases Nat.lt_or_ge k kb with hlt | hge
    · rw [hok'.out k hlt] at cm
      go_wp2_with fail
      refine cf.mono ?_
      rintro e w3 ⟨rfl, nq, rfl⟩
      go_wp2_with fail
      refine (cm _).mono ?_
      rintro e w4 ⟨rfl, g4⟩
      go_wp2
      go_roundw
      case rel => exact ⟨k + 1, by omega, by have := hj'.out; congr 1; omega, (Gk.drewN _).trans g4⟩
      case measure => have := hj'.out; simp [intOf]; omega
    · obtain rfl : k = kb := by omega
      rw [hbad] at cm
      go_wp2_with fail
      refine cf.mono ?_
      rintro e w3 ⟨rfl, nq, rfl⟩
      go_wp2_with fail
      refine (cm _).mono ?_
      rintro e w4 ⟨rfl, g4⟩
      go_wp2
      go_ret
      exact ⟨rfl, G2.trans ((Gk.drewN _).trans g4)⟩

end Go.Proofs.Ytkaaagggbclofaa
namespace Go.Proofs.Ytkaaagggbclofaa
open Go.RowKit Go.Sort Go.Shelf Go.Deep

/-- No operation of a region is a defer statement. -/
def noDefer (ops : Array Oper) : Bool := ops.all fun o => match o.op with | .defer _ => false | _ => true
theorem noDefer_spec {ops : Array Oper} (h : noDefer ops = true) {i : Nat} {o : Oper} (ho : ops[i]? = some o) : ∀ c, o.op ≠ .defer c := fun c hc => by
  have h1 := Array.all_eq_true.1 h i (by exact (Array.getElem?_eq_some_iff.1 ho).1)
  rw [(Array.getElem?_eq_some_iff.1 ho).2, hc] at h1
  cases h1
/-- An operation's rule as anywhere is its rule in a round. -/
theorem rows_wide {n : Nat} {P : Program} {row : String} {args : Array Value} {w : World} {R : Value → World → Prop} (h : Rows P row args w R) : RowsIn Fence.wide n P row args w R := by
  intro c cs _
  obtain ⟨v, w', r, s⟩ := h c cs
  exact ⟨v, w', r, stepsIn_wide.2 s⟩
theorem wpOp_round {n l : Nat} {P : Program} {ops : Array Oper} {Q : Exit → Act → World → Prop} (hnd : noDefer ops = true) (hno : ¬ LetsOut Q) {i : Nat} {K : Act → World → Prop} {a : Act} {w : World}
    (hr : ∀ row args w' R, Rows P row args w' R → RowsIn Fence.wide (n - 1) P row args w' R) (h : wpOp P ops Q i K a w) : wpOpIn (Fence.wide.inRound l) n P ops Q i K a w := by
  unfold wpOp at h
  unfold wpOpIn
  cases ho : ops[i]? with
  | none => rw [ho] at h; exact h
  | some o =>
    rw [ho] at h
    dsimp only at h ⊢
    by_cases hw : Region.wanted o (yielded ops a.tmps) = true
    · rw [if_pos hw] at h ⊢
      rcases h with h | h
      · refine ⟨fun _ _ => trivial, ?_⟩
        rw [show (Fence.wide.inRound l).round = some l from rfl, Oper.semAt_some l _ _ (noDefer_spec hnd ho)]
        unfold Oper.wp at h
        generalize (execOp a.eval o).run P w = r at *
        cases r with
        | ok x w' =>
          cases x <;> simp only [Oper.upon] at h <;> simp only [Oper.uponIn] <;> first
            | exact h
            | exact h.elim
            | exact ⟨fun hd => (by cases hd), (callsIn_wide (n := n - 1)).2 h⟩
            | exact ⟨fun hd => (by cases hd), hr _ _ _ _ h⟩
        | halt x w' => cases x <;> simp only [Oper.upon] at h <;> simp only [Oper.uponIn] <;> first | exact h | exact h.elim
      · exact (hno h.2).elim
    · rw [if_neg hw] at h ⊢
      exact ⟨fun _ _ => trivial, h⟩
theorem wpAny_round {n l : Nat} {P : Program} {md : Region.Mode} {ops : Array Oper} {Q : Exit → Act → World → Prop} (hnd : noDefer ops = true) (hno : ¬ LetsOut Q) : ∀ (fuel : Nat) (listed : Array Bool) (a : Act) (w : World),
    wpAny P md ops Q fuel listed a w → wpAnyIn (Fence.wide.inRound l) n P md ops Q fuel listed a w
  | 0, _, _, _, h => h
  | fuel + 1, _, _, _, h => ⟨h.1, fun i hi => wpOpIn_mono (fun a' w' h' => wpAny_round hnd hno fuel _ a' w' h') (wpOp_round hnd hno (fun _ _ _ _ h => rows_wide h) (h.2 i hi))⟩
/-- A region that draws, in a round: from the walk as anywhere. -/
theorem wpIn_region_round {n l : Nat} {P : Program} {ops : Array Oper} {Q : Exit → Act → World → Prop} (S : World → Prop) {id : Nat} {a : Act} {w : World} (hm : P.follows .mixedOrders = true) (hnd : noDefer ops = true) (hno : ¬ LetsOut Q)
    (h : wpAnyH P .any ops Q S ops.size (Array.replicate ops.size false) a w.drew) : (Code.region id ops true).wpIn (Fence.wide.inRound l) n P Q a w :=
  wpIn_region_any hm (wpAny_round hnd hno _ _ _ _ (wpAny_of_held _ _ _ _ h))

/-- The same for a region that only reads. -/
theorem wpIn_region_round_quiet {n l : Nat} {P : Program} {ops : List Oper} {Q : Exit → Act → World → Prop} {id : Nat} {a : Act} {w : World} (hm : P.follows .mixedOrders = true) (hB : Region.lexB .any ops.toArray = true) (hnd : noDefer ops.toArray = true) (hno : ¬ LetsOut Q)
    (h : wpQuiet P ops.toArray (fun w' => ∃ n, w' = w.drewN n) (fun a' => ∀ w', (∃ n, w' = w.drewN n) → Q .normal a' w') ops a) : (Code.region id ops.toArray true).wpIn (Fence.wide.inRound l) n P Q a w := by
  simp only [Region.lexB, Bool.and_eq_true] at hB
  refine wpIn_region_any hm (wpAny_round hnd hno _ _ _ _ (wpAny_of_quiet (C := fun w' => ∃ n, w' = w.drewN n) (Q := fun a' => ∀ w', (∃ n, w' = w.drewN n) → Q .normal a' w') (fun _ w' hw' h => h w' hw') _ _ _ _ ⟨1, rfl⟩ ?_))
  have := wpAnyQ_lex (C := fun w' => ∃ n, w' = w.drewN n) (md := .any) hB.1 ops.toArray.toList 0 (Array.replicate ops.toArray.size false) a (by simp) (by simpa using hB.2) (by simpa using h)
  simpa using this

end Go.Proofs.Ytkaaagggbclofaa
