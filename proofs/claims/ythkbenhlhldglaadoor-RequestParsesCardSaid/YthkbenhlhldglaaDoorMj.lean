/-
  What is proved: plain mathematics of requests: their forms, what they may be, how a message is read as one and written of one; what Good makes of any may be, and is read as it was. No program. what Good makes of any request may be, with no more than its Op has. No program.
-/
import Derived.Test.YthkbenhlhldglaaDoorMb
import Derived.Test.YthkbenhlhldglaaDoorMe
import Derived.Test.YthkbenhlhldglaaDoorMa
import Derived.Test.YthkbenhlhldglaaDoorMh
namespace Go.Proofs.YthkbenhlhldglaaDoor

/-- A request. -/
structure Rq where
  op : Int
  id : Int
  a : Int
  b : Int
  x0 : Int
  y0 : Int
  x1 : Int
  y1 : Int
  s : ByteArray
  d : List Int
def zQ : Rq := ⟨0, 0, 0, 0, 0, 0, 0, 0, ⟨#[]⟩, []⟩
def oQ (op id : Int) : Rq := ⟨op, id, 0, 0, 0, 0, 0, 0, ⟨#[]⟩, []⟩
def zM : Ms := ⟨0, 0, []⟩
def forms : List (List UInt8) := [[117, 117], [], [114, 98], [], [], [117], [114], [105, 105], [117], [], [117], [114], [114], [117], [115], [117], [], [105, 105], [105, 105]]
def fmL (n : Nat) : List UInt8 := forms.getD n []
def fmS (n : Nat) : ByteArray := ⟨(fmL n).toArray⟩
theorem fmS_list (n : Nat) : (fmS n).data.toList = fmL n := rfl
theorem fmL_ok {n : Nat} (h : n < 19) : formR (fmL n) = true ∧ formB (fmL n) = true ∧ (fmL n).length ≤ 2 ∧ (fmL n = [98] → False) := by
  have : ∀ m : Fin 19, formR (fmL m.1) = true ∧ formB (fmL m.1) = true ∧ (fmL m.1).length ≤ 2 ∧ (fmL m.1 = [98] → False) := by decide
  exact this ⟨n, h⟩

/-- The arguments of a request, letter by letter. -/
def argC (c : UInt8) (i : Nat) (r : Rq) : Av := if c = 115 then vS r.s else if c = 114 then vR r.x0 r.y0 r.x1 r.y1 else if c = 98 then vB r.d else vI (if i = 0 then r.a else r.b)
def argL : List UInt8 → Nat → Rq → List Av
  | [], _, _ => []
  | c :: f, i, r => argC c i r :: argL f (i + 1) r
/-- A request with an argument of that place. -/
def setA (r : Rq) (i : Nat) (v : Av) : Rq :=
  if v.k = 0 then (if i = 0 then { r with a := v.n } else { r with b := v.n }) else if v.k = 1 then { r with s := v.s } else if v.k = 2 then { r with x0 := v.x0, y0 := v.y0, x1 := v.x1, y1 := v.y1 } else { r with d := v.b }
def setL : Rq → Nat → List Av → Rq
  | r, _, [] => r
  | r, i, v :: l => setL (setA r i v) (i + 1) l
theorem argL_len : ∀ (f : List UInt8) (i : Nat) (r : Rq), (argL f i r).length = f.length
  | [], _, _ => rfl
  | c :: f, i, r => by simp [argL, argL_len f]
theorem argL_get : ∀ (f : List UInt8) (i k : Nat) (r : Rq) (c : UInt8), f[k]? = some c → (argL f i r)[k]? = some (argC c (i + k) r)
  | [], _, k, r, c, h => by simp at h
  | d :: f, i, 0, r, c, h => by simp at h; subst h; simp [argL]
  | d :: f, i, k + 1, r, c, h => by
    have := argL_get f (i + 1) k r c (by simpa using h)
    rw [show i + (k + 1) = i + 1 + k by omega]
    simpa [argL] using this
theorem setL_snoc : ∀ (l : List Av) (r : Rq) (i : Nat) (v : Av), setL r i (l ++ [v]) = setA (setL r i l) (i + l.length) v
  | [], r, i, v => rfl
  | u :: l, r, i, v => by
    show setL (setA r i u) (i + 1) (l ++ [v]) = _
    rw [setL_snoc l, List.length_cons, show i + (l.length + 1) = i + 1 + l.length by omega]; rfl
/-- What is read has its kind. -/
theorem gv_kind (c : UInt8) (b : List Int) : (gv c b).k = 0 ∨ (gv c b).k = 1 ∨ (gv c b).k = 2 ∨ (gv c b).k = 3 := by
  unfold gv
  split
  · exact .inl rfl
  · split
    · exact .inl rfl
    · split
      · exact .inr (.inl rfl)
      · split
        · exact .inr (.inr (.inl rfl))
        · exact .inr (.inr (.inr rfl))
theorem unA_kind : ∀ (f : List UInt8) (X : List Av) (b : List Int), (∀ v ∈ X, v.k = 0 ∨ v.k = 1 ∨ v.k = 2 ∨ v.k = 3) → ∀ v ∈ (unA X f b).1, v.k = 0 ∨ v.k = 1 ∨ v.k = 2 ∨ v.k = 3
  | [], X, b, h => by
    unfold unA
    split
    · exact h
    · intro v hv; simp at hv
  | c :: f, X, b, h => by
    unfold unA
    split
    · intro v hv; simp at hv
    · refine unA_kind f _ _ fun v hv => ?_
      rcases List.mem_append.1 hv with hv | hv
      · exact h v hv
      · simp at hv; subst hv; exact gv_kind c b
theorem unR_kind (f : List UInt8) (b : List Int) : ∀ v ∈ (unR f b).1, v.k = 0 ∨ v.k = 1 ∨ v.k = 2 ∨ v.k = 3 := by
  unfold unR
  split
  · exact unA_kind f [] b fun v hv => by simp at hv
  · intro v hv; simp at hv
theorem unA_len : ∀ (f : List UInt8) (X : List Av) (b : List Int), (unA X f b).1.length ≤ X.length + f.length
  | [], X, b => by unfold unA; split <;> simp
  | c :: f, X, b => by
    unfold unA
    split
    · simp
    · have := unA_len f (X ++ [gv c b]) (b.drop (gn c b))
      simp at this ⊢; omega
theorem unR_len (f : List UInt8) (b : List Int) : (unR f b).1.length ≤ f.length := by
  unfold unR
  split
  · simpa using unA_len f [] b
  · simp
theorem unA_e : ∀ (f : List UInt8) (X : List Av) (b : List Int), 0 ≤ (unA X f b).2 ∧ (unA X f b).2 ≤ 3
  | [], X, b => by unfold unA; split <;> simp
  | c :: f, X, b => by
    unfold unA
    split
    · simp
    · exact unA_e f _ _
theorem unR_e (f : List UInt8) (b : List Int) : 0 ≤ (unR f b).2 ∧ (unR f b).2 ≤ 3 := by
  unfold unR
  split
  · exact unA_e f [] b
  · simp

def btw (l t n : Int) : Bool := decide (l ≤ n) && decide (n ≤ t)
/-- May its Id be; may its arguments? -/
def idB (op id : Int) : Bool := mayM ⟨op, id, []⟩ && (decide (id = 0) == decide (op = 18))
def argB (r : Rq) : Bool :=
  if r.op = 0 then btw 1 256 r.a && btw 1 256 r.b
  else if r.op = 2 then mayB r.x0 r.y0 r.x1 r.y1 && !emptyB r.x0 r.y0 r.x1 r.y1
  else if r.op = 6 ∨ r.op = 11 ∨ r.op = 12 then mayB r.x0 r.y0 r.x1 r.y1
  else if r.op = 7 ∨ r.op = 17 ∨ r.op = 18 then btw (-1048576) 1048576 r.a && btw (-1048576) 1048576 r.b
  else if r.op = 10 then btw 1 8 r.a
  else if r.op = 13 then btw 0 255 r.a
  else if r.op = 14 then mayX (sgs r.s.data.toList) else true
def mayQ (r : Rq) : Bool := idB r.op r.id && argB r
/-- The request of a message. -/
def decU (op id : Int) (u : List Av × Int) : Rq × Int :=
  if u.2 = 0 then (if mayQ (setL (oQ op id) 0 u.1) = true then (setL (oQ op id) 0 u.1, 0) else (zQ, 4)) else (zQ, u.2)
def decR (m : Ms) : Rq × Int := if 0 ≤ m.op ∧ m.op ≤ 18 then decU m.op m.id (unR (fmL m.op.toNat) m.body) else (zQ, 12)
def sameQ (r q : Rq) : Bool :=
  decide (r.op = q.op) && (decide (r.id = q.id) && (decide (r.a = q.a) && (decide (r.b = q.b) && (decide (r.x0 = q.x0 ∧ r.y0 = q.y0 ∧ r.x1 = q.x1 ∧ r.y1 = q.y1) && (decide (r.s = q.s) && decide (r.d = q.d))))))
theorem sameQ_iff (r q : Rq) : sameQ r q = true ↔ r = q := by
  obtain ⟨a, b, c, d, e, f, g, h, i, j⟩ := r
  obtain ⟨a', b', c', d', e', f', g', h', i', j'⟩ := q
  unfold sameQ
  simp only [Bool.and_eq_true, decide_eq_true_iff, Rq.mk.injEq]
  constructor
  · rintro ⟨h1, h2, h3, h4, ⟨h5, h6, h7, h8⟩, h9, h10⟩; exact ⟨h1, h2, h3, h4, h5, h6, h7, h8, h9, h10⟩
  · rintro ⟨h1, h2, h3, h4, h5, h6, h7, h8, h9, h10⟩; exact ⟨h1, h2, h3, h4, ⟨h5, h6, h7, h8⟩, h9, h10⟩
/-- The message of a request. -/
def encP (r : Rq) (p : List Int × Int) : Ms × Int := if p.2 = 0 ∧ (decR ⟨r.op, r.id, p.1⟩).2 = 0 ∧ sameQ (decR ⟨r.op, r.id, p.1⟩).1 r = true then (⟨r.op, r.id, p.1⟩, 0) else (zM, 1)
def encR (r : Rq) : Ms × Int := if 0 ≤ r.op ∧ r.op ≤ 18 then encP r (pkR (fmL r.op.toNat) (argL (fmL r.op.toNat) 0 r)) else (zM, 12)
/-- The requests of messages; of bytes. -/
def parF : List Ms → List Rq × Int
  | [] => ([], 0)
  | m :: l => if (decR m).2 = 0 then ((decR m).1 :: (parF l).1, (parF l).2) else ([], (decR m).2)
def parR (L : List Int) : List Rq × Int := ((parF (spl L).1).1, if (parF (spl L).1).2 = 0 then (spl L).2.2 else (parF (spl L).1).2)

/-- A request that may be, with no more than its Op has. -/
structure OkQ (r : Rq) : Prop where
  op : 0 ≤ r.op ∧ r.op ≤ 18
  may : mayQ r = true
  arg : OkL (fmL r.op.toNat) (argL (fmL r.op.toNat) 0 r)
  bare : setL (oQ r.op r.id) 0 (argL (fmL r.op.toNat) 0 r) = r
theorem idB_may {op id : Int} (h : idB op id = true) : (0 ≤ op ∧ op ≤ 255) ∧ 0 ≤ id ∧ id ≤ 4294967295 := by
  unfold idB at h
  rw [Bool.and_eq_true, mayM_iff] at h
  exact ⟨h.1.1, h.1.2.1⟩
theorem mayQ_id {r : Rq} (h : mayQ r = true) : idB r.op r.id = true := by unfold mayQ at h; rw [Bool.and_eq_true] at h; exact h.1
theorem toNat_lt {x : Int} (h : 0 ≤ x ∧ x ≤ 18) : x.toNat < 19 := by omega
/-- What may be is written, and read as it was. -/
theorem OkQ.enc {r : Rq} (h : OkQ r) : ∃ b, b.length ≤ 512 ∧ pkA [] (fmL r.op.toNat) (argL (fmL r.op.toNat) 0 r) = some b ∧ encR r = (⟨r.op, r.id, b⟩, 0) ∧ decR ⟨r.op, r.id, b⟩ = (r, 0) := by
  obtain ⟨f1, f2, f3, _⟩ := fmL_ok (toNat_lt h.op)
  obtain ⟨b, h1, h2, h3⟩ := round _ _ [] f1 h.arg
  have hb : b.length ≤ 512 := by omega
  have hd : decR ⟨r.op, r.id, b⟩ = (r, 0) := by
    unfold decR
    rw [if_pos h.op]
    show decU r.op r.id (unR (fmL r.op.toNat) b) = _
    unfold unR
    rw [if_pos f2, h3]
    unfold decU
    rw [if_pos rfl]
    show (if mayQ (setL (oQ r.op r.id) 0 (argL (fmL r.op.toNat) 0 r)) = true then _ else _) = _
    rw [h.bare, if_pos h.may]
    show (setL (oQ r.op r.id) 0 (argL (fmL r.op.toNat) 0 r), (0 : Int)) = _
    rw [h.bare]
  refine ⟨b, hb, h1, ?_, hd⟩
  unfold encR
  rw [if_pos h.op]
  unfold pkR
  rw [if_pos ⟨f2, argL_len _ _ _⟩, h1]
  show encP r (if 4096 < b.length then (([], 7) : List Int × Int) else (b, 0)) = _
  rw [if_neg (by omega)]
  unfold encP
  rw [hd, if_pos ⟨rfl, rfl, (sameQ_iff _ _).2 rfl⟩]
theorem OkQ.apart {r q : Rq} (hr : OkQ r) (hq : OkQ q) (h : (encR r).1 = (encR q).1) : r = q := by
  obtain ⟨b, _, _, e1, d1⟩ := hr.enc
  obtain ⟨c, _, _, e2, d2⟩ := hq.enc
  rw [e1, e2] at h
  have h' : (⟨r.op, r.id, b⟩ : Ms) = ⟨q.op, q.id, c⟩ := h
  rw [h'] at d1
  rw [d2] at d1
  exact (Prod.mk.inj d1).1.symm
/-- What is written is read as it was. -/
theorem enc_dec {r : Rq} (h : (encR r).2 = 0) : decR (encR r).1 = (r, 0) ∧ 0 ≤ r.op ∧ r.op ≤ 18 := by
  unfold encR at h ⊢
  split at h
  · rename_i ho
    rw [if_pos ho]
    unfold encP at h ⊢
    split at h
    · rename_i hp
      rw [if_pos hp]
      obtain ⟨_, h2, h3⟩ := hp
      have := (sameQ_iff _ _).1 h3
      exact ⟨Prod.ext this h2, ho⟩
    · cases h
  · cases h

/-- The bytes of what is written are bytes. -/
theorem d4_by (n : Int) : ByL (d4 n) := by
  intro x hx
  simp [d4] at hx
  rcases hx with rfl | rfl | rfl | rfl <;> omega
theorem tb_by (s : ByteArray) : ByL (tb s) := by
  intro x hx
  unfold tb at hx
  rw [List.mem_map] at hx
  obtain ⟨c, _, rfl⟩ := hx
  have := UInt8.toNat_lt c
  omega
theorem put_by {c : UInt8} {v : Av} {b : List Int} (hv : ByL v.b) (h : put c v = some b) : ByL b := by
  unfold put at h
  split at h
  · split at h
    · cases h; exact d4_by _
    · cases h
  · split at h
    · split at h
      · cases h; exact d4_by _
      · cases h
    · split at h
      · split at h
        · rename_i h'
          cases h
          intro x hx
          rcases List.mem_cons.1 hx with rfl | hx
          · omega
          · exact tb_by _ x hx
        · cases h
      · split at h
        · split at h
          · cases h
            exact (((d4_by _).app (d4_by _)).app (d4_by _)).app (d4_by _)
          · cases h
        · split at h
          · split at h
            · cases h; exact hv
            · cases h
          · cases h
theorem pkA_by : ∀ (f : List UInt8) (l : List Av) (L b : List Int), (∀ v ∈ l, ByL v.b) → ByL L → pkA L f l = some b → ByL b
  | [], l, L, b, _, hL, h => by
    have : L = b := by simpa [pkA] using h
    rwa [← this]
  | c :: f, [], L, b, _, hL, h => by simp [pkA] at h
  | c :: f, v :: l, L, b, hl, hL, h => by
    unfold pkA at h
    split at h
    · cases h
    · rename_i b' hb'
      exact pkA_by f l _ b (fun u hu => hl u (by simp [hu])) (hL.app (put_by (hl v (by simp)) hb')) h
theorem pkR_by (f : List UInt8) (l : List Av) (hl : ∀ v ∈ l, ByL v.b) : ByL (pkR f l).1 ∧ (pkR f l).1.length ≤ 4096 ∧ 0 ≤ (pkR f l).2 ∧ (pkR f l).2 ≤ 7 := by
  unfold pkR
  split
  · unfold pkE
    cases hp : pkA [] f l with
    | none => exact ⟨ByL.nil, by simp, by simp, by simp⟩
    | some b =>
      show ByL (if 4096 < b.length then (([], 7) : List Int × Int) else (b, 0)).1 ∧ _
      dsimp only
      by_cases h : 4096 < b.length
      · rw [if_pos h]; exact ⟨ByL.nil, by simp, by simp, by simp⟩
      · rw [if_neg h]; exact ⟨pkA_by f l [] b hl ByL.nil hp, Nat.le_of_not_lt h, by simp, by simp⟩
  · exact ⟨ByL.nil, by simp, by simp, by simp⟩
theorem argC_by {r : Rq} (h : ByL r.d) (c : UInt8) (i : Nat) : ByL (argC c i r).b := by
  unfold argC
  split
  · exact ByL.nil
  · split
    · exact ByL.nil
    · split
      · exact h
      · exact ByL.nil
theorem argL_by {r : Rq} (h : ByL r.d) : ∀ (f : List UInt8) (i : Nat), ∀ v ∈ argL f i r, ByL v.b
  | [], i, v, hv => by simp [argL] at hv
  | c :: f, i, v, hv => by
    rcases List.mem_cons.1 (show v ∈ argC c i r :: argL f (i + 1) r from hv) with rfl | hv
    · exact argC_by h c i
    · exact argL_by h f (i + 1) v hv
theorem encR_by {r : Rq} (h : ByL r.d) : ByL (encR r).1.body ∧ (encR r).1.body.length ≤ 4096 := by
  unfold encR
  split
  · have hp := pkR_by (fmL r.op.toNat) _ (argL_by h (fmL r.op.toNat) 0)
    unfold encP
    split
    · exact ⟨hp.1, hp.2.1⟩
    · exact ⟨ByL.nil, by simp [zM]⟩
  · exact ⟨ByL.nil, by simp [zM]⟩

/-- What Good makes. -/
def goodO (o i : Int) (r : Rq) : Rq :=
  if o = 0 then ⟨o, i, 1 + around r.a 16, 1 + around r.b 16, 0, 0, 0, 0, ⟨#[]⟩, []⟩
  else if o = 2 then ⟨o, i, 0, 0, around r.x0 8, around r.y0 8, around r.x0 8 + 1 + around r.x1 4, around r.y0 8 + 1 + around r.y1 4, ⟨#[]⟩, r.d.take 64⟩
  else if o = 5 ∨ o = 8 ∨ o = 15 then ⟨o, i, around r.a 10, 0, 0, 0, 0, 0, ⟨#[]⟩, []⟩
  else if o = 6 ∨ o = 11 ∨ o = 12 then ⟨o, i, 0, 0, (smallR r.x0 r.y0 r.x1 r.y1).a, (smallR r.x0 r.y0 r.x1 r.y1).b, (smallR r.x0 r.y0 r.x1 r.y1).c, (smallR r.x0 r.y0 r.x1 r.y1).d, ⟨#[]⟩, []⟩
  else if o = 7 ∨ o = 17 ∨ o = 18 then ⟨o, i, around r.a 40 - 10, around r.b 40 - 10, 0, 0, 0, 0, ⟨#[]⟩, []⟩
  else if o = 10 then ⟨o, i, 1 + around r.a 3, 0, 0, 0, 0, 0, ⟨#[]⟩, []⟩
  else if o = 13 then ⟨o, i, around r.a 256, 0, 0, 0, 0, 0, ⟨#[]⟩, []⟩
  else if o = 14 then ⟨o, i, 0, 0, 0, 0, 0, 0, bs (clX (sgs (r.s.data.toList.take 20))), []⟩
  else oQ o i
def goodI (r : Rq) : Int := if around r.op 19 = 18 then 0 else 1 + around r.id 9
def goodQ (r : Rq) : Rq := goodO (around r.op 19) (goodI r) r

theorem clX20 (l : List UInt8) (hl : l.length ≤ 20) : (clX (sgs l)).length ≤ 80 := by
  have hok := sgs_ok l
  rw [clX_piece hok]
  have h1 : ∀ X : List Sg, (∀ x ∈ X, x.ok) → (X.flatMap piece).length ≤ 4 * X.length := by
    intro X
    induction X with
    | nil => intro _; simp
    | cons x X ih =>
      intro h
      have a := piece_len (h x (by simp))
      have b := ih fun y hy => h y (by simp [hy])
      simp only [List.flatMap_cons, List.length_append, List.length_cons]
      omega
  have h2 := h1 ((sgs l).take 64) (fun x hx => hok x (List.mem_of_mem_take hx))
  have h3 := sgs_len l
  rw [List.length_take] at h2
  omega
theorem okU {n : Int} (h0 : 0 ≤ n) (h1 : n ≤ 4294967295) : okA 117 (vI n) := .inr (.inl ⟨rfl, n, rfl, h0, h1⟩)
theorem okI {n : Int} (h : small n) : okA 105 (vI n) := .inl ⟨rfl, n, rfl, h⟩
theorem okS1 {s : ByteArray} (h : s.size ≤ 255) : okA 115 (vS s) := .inr (.inr (.inl ⟨rfl, s, rfl, h⟩))
theorem okR {x0 y0 x1 y1 : Int} (h0 : small x0) (h1 : small y0) (h2 : small x1) (h3 : small y1) : okA 114 (vR x0 y0 x1 y1) := .inr (.inr (.inr (.inl ⟨rfl, x0, y0, x1, y1, rfl, h0, h1, h2, h3⟩)))
theorem okB {b : List Int} (h : b.length ≤ 64) : okA 98 (vB b) := .inr (.inr (.inr (.inr ⟨rfl, b, rfl, h⟩)))

end Go.Proofs.YthkbenhlhldglaaDoor
namespace Go.Proofs.YthkbenhlhldglaaDoor

theorem may_id {o i : Int} (ho : 0 ≤ o ∧ o ≤ 18) (hi : (o = 18 ∧ i = 0) ∨ (o ≠ 18 ∧ 1 ≤ i ∧ i ≤ 9)) : idB o i = true := by
  unfold idB
  rw [Bool.and_eq_true, mayM_iff]
  refine ⟨⟨⟨by show 0 ≤ o; omega, by show o ≤ 255; omega⟩, ⟨by show 0 ≤ i; omega, by show i ≤ 4294967295; omega⟩, by simp⟩, ?_⟩
  rcases hi with ⟨h1, h2⟩ | ⟨h1, h2, h3⟩
  · rw [h1, h2]; rfl
  · rw [decide_eq_false (show ¬ i = 0 by omega), decide_eq_false h1]; rfl
theorem btw_t {l t n : Int} (h0 : l ≤ n) (h1 : n ≤ t) : btw l t n = true := by
  unfold btw; rw [decide_eq_true h0, decide_eq_true h1]; rfl
theorem good_okQ (o i : Int) (r : Rq) (ho : 0 ≤ o ∧ o ≤ 18) (hi : (o = 18 ∧ i = 0) ∨ (o ≠ 18 ∧ 1 ≤ i ∧ i ≤ 9)) : OkQ (goodO o i r) := by
  have hid := may_id ho hi
  have hob : (goodO o i r).op = o ∧ (goodO o i r).id = i := by
    unfold goodO
    repeat' split
    all_goals exact ⟨rfl, rfl⟩
  have ar := fun n m hm => around_bd n m hm
  have hc : o = 0 ∨ o = 1 ∨ o = 2 ∨ o = 3 ∨ o = 4 ∨ o = 5 ∨ o = 6 ∨ o = 7 ∨ o = 8 ∨ o = 9 ∨ o = 10 ∨ o = 11 ∨ o = 12 ∨ o = 13 ∨ o = 14 ∨ o = 15 ∨ o = 16 ∨ o = 17 ∨ o = 18 := by omega
  have may : ∀ b, argB (goodO o i r) = b → b = true → mayQ (goodO o i r) = true := by
    intro b h1 h2
    unfold mayQ
    rw [hob.1, hob.2, hid, h1, h2]; rfl
  have sm : ∀ x : Int, -1000000 ≤ x → x ≤ 1000000 → small x := fun x h1 h2 => by unfold small; omega
  have sR : mayB (smallR r.x0 r.y0 r.x1 r.y1).a (smallR r.x0 r.y0 r.x1 r.y1).b (smallR r.x0 r.y0 r.x1 r.y1).c (smallR r.x0 r.y0 r.x1 r.y1).d = true ∧
      OkL [114] [vR (smallR r.x0 r.y0 r.x1 r.y1).a (smallR r.x0 r.y0 r.x1 r.y1).b (smallR r.x0 r.y0 r.x1 r.y1).c (smallR r.x0 r.y0 r.x1 r.y1).d] := by
    have a0 := ar r.x0 24 (by omega)
    have a1 := ar r.y0 24 (by omega)
    have a2 := ar r.x1 13 (by omega)
    have a3 := ar r.y1 13 (by omega)
    unfold smallR
    dsimp only
    refine ⟨by unfold mayB; rw [decide_eq_true_iff]; omega, .cons (okR (sm _ ?_ ?_) (sm _ ?_ ?_) (sm _ ?_ ?_) (sm _ ?_ ?_)) .nil⟩ <;> omega
  have place : ∀ n : Int, btw (-1048576) 1048576 (around n 40 - 10) = true ∧ okA 105 (vI (around n 40 - 10)) := fun n => by
    have := ar n 40 (by omega)
    exact ⟨btw_t (by omega) (by omega), okI (sm _ (by omega) (by omega))⟩
  have ten : okA 117 (vI (around r.a 10)) := by have := ar r.a 10 (by omega); exact okU (by omega) (by omega)
  rcases hc with rfl | rfl | rfl | rfl | rfl | rfl | rfl | rfl | rfl | rfl | rfl | rfl | rfl | rfl | rfl | rfl | rfl | rfl | rfl
  · have a := ar r.a 16 (by omega)
    have b := ar r.b 16 (by omega)
    exact ⟨by rw [hob.1]; exact ho, may (btw 1 256 (1 + around r.a 16) && btw 1 256 (1 + around r.b 16)) rfl (by rw [btw_t (by omega) (by omega), btw_t (by omega) (by omega)]; rfl), show OkL [117, 117] [vI (1 + around r.a 16), vI (1 + around r.b 16)] from .cons (okU (by omega) (by omega)) (.cons (okU (by omega) (by omega)) .nil), rfl⟩
  · exact ⟨by rw [hob.1]; exact ho, may true rfl rfl, .nil, rfl⟩
  · have a := ar r.x0 8 (by omega)
    have b := ar r.y0 8 (by omega)
    have c := ar r.x1 4 (by omega)
    have d := ar r.y1 4 (by omega)
    refine ⟨by rw [hob.1]; exact ho, may (mayB (around r.x0 8) (around r.y0 8) (around r.x0 8 + 1 + around r.x1 4) (around r.y0 8 + 1 + around r.y1 4) && !emptyB (around r.x0 8) (around r.y0 8) (around r.x0 8 + 1 + around r.x1 4) (around r.y0 8 + 1 + around r.y1 4)) rfl ?_, show OkL [114, 98] [vR (around r.x0 8) (around r.y0 8) (around r.x0 8 + 1 + around r.x1 4) (around r.y0 8 + 1 + around r.y1 4), vB (r.d.take 64)] from .cons (okR (sm _ ?_ ?_) (sm _ ?_ ?_) (sm _ ?_ ?_) (sm _ ?_ ?_)) (.cons (okB ?_) .nil), rfl⟩
    · unfold mayB emptyB
      rw [decide_eq_true (by omega), decide_eq_false (by omega)]; rfl
    all_goals first | (show (r.d.take 64).length ≤ 64; rw [List.length_take]; omega) | omega
  · exact ⟨by rw [hob.1]; exact ho, may true rfl rfl, .nil, rfl⟩
  · exact ⟨by rw [hob.1]; exact ho, may true rfl rfl, .nil, rfl⟩
  · exact ⟨by rw [hob.1]; exact ho, may true rfl rfl, .cons ten .nil, rfl⟩
  · exact ⟨by rw [hob.1]; exact ho, may _ rfl sR.1, sR.2, rfl⟩
  · exact ⟨by rw [hob.1]; exact ho, may (btw (-1048576) 1048576 (around r.a 40 - 10) && btw (-1048576) 1048576 (around r.b 40 - 10)) rfl (by rw [(place _).1, (place _).1]; rfl), .cons (place _).2 (.cons (place _).2 .nil), rfl⟩
  · exact ⟨by rw [hob.1]; exact ho, may true rfl rfl, .cons ten .nil, rfl⟩
  · exact ⟨by rw [hob.1]; exact ho, may true rfl rfl, .nil, rfl⟩
  · have a := ar r.a 3 (by omega)
    exact ⟨by rw [hob.1]; exact ho, may (btw 1 8 (1 + around r.a 3)) rfl (btw_t (by omega) (by omega)), show OkL [117] [vI (1 + around r.a 3)] from .cons (okU (by omega) (by omega)) .nil, rfl⟩
  · exact ⟨by rw [hob.1]; exact ho, may _ rfl sR.1, sR.2, rfl⟩
  · exact ⟨by rw [hob.1]; exact ho, may _ rfl sR.1, sR.2, rfl⟩
  · have a := ar r.a 256 (by omega)
    exact ⟨by rw [hob.1]; exact ho, may (btw 0 255 (around r.a 256)) rfl (btw_t (by omega) (by omega)), show OkL [117] [vI (around r.a 256)] from .cons (okU (by omega) (by omega)) .nil, rfl⟩
  · have hok := sgs_ok (r.s.data.toList.take 20)
    have hl := clX20 (r.s.data.toList.take 20) (by rw [List.length_take]; omega)
    exact ⟨by rw [hob.1]; exact ho, may (mayX (sgs (bs (clX (sgs (r.s.data.toList.take 20)))).data.toList)) rfl (by rw [bs_list]; exact clX_may hok), show OkL [115] [vS (bs (clX (sgs (r.s.data.toList.take 20))))] from .cons (okS1 (by rw [bs_size]; omega)) .nil, rfl⟩
  · exact ⟨by rw [hob.1]; exact ho, may true rfl rfl, .cons ten .nil, rfl⟩
  · exact ⟨by rw [hob.1]; exact ho, may true rfl rfl, .nil, rfl⟩
  · exact ⟨by rw [hob.1]; exact ho, may (btw (-1048576) 1048576 (around r.a 40 - 10) && btw (-1048576) 1048576 (around r.b 40 - 10)) rfl (by rw [(place _).1, (place _).1]; rfl), .cons (place _).2 (.cons (place _).2 .nil), rfl⟩
  · exact ⟨by rw [hob.1]; exact ho, may (btw (-1048576) 1048576 (around r.a 40 - 10) && btw (-1048576) 1048576 (around r.b 40 - 10)) rfl (by rw [(place _).1, (place _).1]; rfl), .cons (place _).2 (.cons (place _).2 .nil), rfl⟩
theorem goodQ_ok (r : Rq) : OkQ (goodQ r) := by
  have h := around_bd r.op 19 (by omega)
  have h' := around_bd r.id 9 (by omega)
  refine good_okQ _ _ r (by omega) ?_
  unfold goodI
  split
  · exact .inl ⟨by assumption, rfl⟩
  · exact .inr ⟨by assumption, by omega, by omega⟩
theorem goodQ_d (r : Rq) : (goodQ r).d = [] ∨ (goodQ r).d = r.d.take 64 := by
  unfold goodQ goodO
  repeat' split
  all_goals first | exact .inl rfl | exact .inr rfl
theorem goodQ_op (r : Rq) : (goodQ r).op = around r.op 19 ∧ (goodQ r).id = goodI r := by
  unfold goodQ goodO
  repeat' split
  all_goals exact ⟨rfl, rfl⟩
/-- Texts that are read are no longer than what they are read of. -/
theorem tx_size (b : List Int) : (tx b).size = b.length := by unfold tx; simp [ByteArray.size]
theorem gv_s (c : UInt8) (b : List Int) : (gv c b).s.size ≤ b.length := by
  unfold gv
  split
  · exact Nat.zero_le _
  · split
    · exact Nat.zero_le _
    · split
      · show (tx _).size ≤ _
        rw [tx_size, List.length_take, List.length_drop]; omega
      · split
        · exact Nat.zero_le _
        · exact Nat.zero_le _
theorem unA_s : ∀ (f : List UInt8) (X : List Av) (b : List Int) (N : Nat), b.length ≤ N → (∀ v ∈ X, v.s.size ≤ N) → ∀ v ∈ (unA X f b).1, v.s.size ≤ N
  | [], X, b, N, _, h => by
    unfold unA
    split
    · exact h
    · intro v hv; simp at hv
  | c :: f, X, b, N, hb, h => by
    unfold unA
    split
    · intro v hv; simp at hv
    · refine unA_s f _ _ N (by rw [List.length_drop]; omega) fun v hv => ?_
      rcases List.mem_append.1 hv with hv | hv
      · exact h v hv
      · simp at hv; subst hv; exact Nat.le_trans (gv_s c b) hb
theorem unR_s (f : List UInt8) (b : List Int) (N : Nat) (h : b.length ≤ N) : ∀ v ∈ (unR f b).1, v.s.size ≤ N := by
  unfold unR
  split
  · exact unA_s f [] b N h fun v hv => by simp at hv
  · intro v hv; simp at hv
theorem gv_b0 (c : UInt8) : (gv c []).b = [] := by
  unfold gv
  repeat' split
  all_goals rfl
theorem unA_b0 : ∀ (f : List UInt8) (X : List Av), (∀ v ∈ X, v.b = []) → ∀ v ∈ (unA X f []).1, v.b = []
  | [], X, h => by
    unfold unA
    split
    · exact h
    · intro v hv; simp at hv
  | c :: f, X, h => by
    unfold unA
    split
    · intro v hv; simp at hv
    · rw [List.drop_nil]
      refine unA_b0 f _ fun v hv => ?_
      rcases List.mem_append.1 hv with hv | hv
      · exact h v hv
      · simp at hv; subst hv; exact gv_b0 c
theorem unR_b0 (f : List UInt8) : ∀ v ∈ (unR f []).1, v.b = [] := by
  unfold unR
  split
  · exact unA_b0 f [] fun v hv => by simp at hv
  · intro v hv; simp at hv
theorem setA_s {r : Rq} {N : Nat} (h : r.s.size ≤ N) (i : Nat) {v : Av} (hv : v.s.size ≤ N) : (setA r i v).s.size ≤ N := by
  unfold setA
  split
  · split <;> exact h
  · split
    · exact hv
    · split <;> exact h
theorem setL_s : ∀ (l : List Av) (r : Rq) (i N : Nat), r.s.size ≤ N → (∀ v ∈ l, v.s.size ≤ N) → (setL r i l).s.size ≤ N
  | [], r, i, N, h, _ => h
  | v :: l, r, i, N, h, hl => setL_s l _ _ N (setA_s h i (hl v (by simp))) fun u hu => hl u (by simp [hu])
theorem setA_id (r : Rq) (i : Nat) (v : Av) : (setA r i v).op = r.op ∧ (setA r i v).id = r.id := by
  unfold setA
  split
  · split <;> exact ⟨rfl, rfl⟩
  · split
    · exact ⟨rfl, rfl⟩
    · split <;> exact ⟨rfl, rfl⟩
theorem setL_id : ∀ (l : List Av) (r : Rq) (i : Nat), (setL r i l).op = r.op ∧ (setL r i l).id = r.id
  | [], r, i => ⟨rfl, rfl⟩
  | v :: l, r, i => by
    have h := setL_id l (setA r i v) (i + 1)
    have h' := setA_id r i v
    exact ⟨h.1.trans h'.1, h.2.trans h'.2⟩

end Go.Proofs.YthkbenhlhldglaaDoor
