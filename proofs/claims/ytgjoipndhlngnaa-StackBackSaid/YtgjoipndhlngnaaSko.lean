/-
  What is proved: what Over of the program's stack hands back. Conditions: bounds on lengths.
-/
import Derived.Test.YtgjoipndhlngnaaSkn
import Derived.Test.YtgjoipndhlngnaaRz
namespace Go.Proofs.Ytgjoipndhlngnaa
open Go.RowKit Go.Sort Go.Shelf Go.Deep

attribute [local go_sem] Oper.semAt_some
attribute [local go_sem ↓] eqlP

theorem ownAtK {β : Type} (B b : Nat) (cs : β → Array Value) (t : TypeId) : OwnFrom B (fun s W => At W b (cs s) t) := fun s X Y row hs hg hr =>
  hs.grown hg (fun e => by obtain ⟨_, o, ho, hc⟩ := hr b e.symm; rw [show X.heap[b]? = _ from hs] at ho; cases ho; cases hc)
theorem ownByK {β : Type} {B : Nat} {w0 : World} (row0 : Option Nat) (h : w0.heap.size ≤ B) : OwnFrom B (fun (_ : β) V => w0.grownBy V row0) := fun _ X Y row hs hg hr =>
  ⟨hg.os.trans hs.os, hg.tape.trans hs.tape, hg.output.trans hs.output, Nat.le_trans hs.size hg.size, fun k hk hne => (hg.block k (Nat.lt_of_lt_of_le hk hs.size) (fun e => by have := (hr k e.symm).1; omega)).trans (hs.block k hk hne)⟩
theorem ownSizeK {β : Type} (B n : Nat) : OwnFrom B (fun (_ : β) V => n ≤ V.heap.size) := fun _ _ _ _ hs hg _ => Nat.le_trans hs hg.size
theorem Gr.keepsK {w w' : World} (g : Gr w w') : KeepsOthers w w' := ⟨g.size, fun k _ hk _ => (g.below.block k (Array.getElem?_eq_some_iff.1 hk).1).trans hk⟩
theorem by_rowK {a b c : World} {row : Option Nat} {r : Nat} (h : a.grownBy b row) (g : b.grownBy c (some r)) (hr : a.heap.size ≤ r) : a.grownBy c row :=
  ⟨g.os.trans h.os, g.tape.trans h.tape, g.output.trans h.output, Nat.le_trans h.size g.size, fun k hk hne => (g.block k (Nat.lt_of_lt_of_le hk h.size) (fun e => by cases e; omega)).trans (h.block k hk hne)⟩
theorem by_rowAK {a b c : World} {row r : Option Nat} (h : a.grownBy b row) (g : b.grownBy c r) (hr : ∀ k, r = some k → a.heap.size ≤ k) : a.grownBy c row := by
  cases r with
  | none => exact By.trans h ⟨g.os, g.tape, g.output, g.size, fun k hk _ => g.block k hk (by simp)⟩
  | some k => exact by_rowK h g (hr k rfl)
theorem ownRowK {β : Type} {S : Shp β} {T : TypeId} (γ : Type) (B bo B1 : Nat) (t : TypeId) (P : γ → List β → Prop) : OwnFrom B (fun (pre : γ) V => ∃ A c M, At V bo #[.slice A M.length c] t ∧ S.Ow T V B1 A c M ∧ P pre M) := fun s X Y row hs hg hr => by
  obtain ⟨A, c, M, h1, h2, h3⟩ := hs
  refine ⟨A, c, M, ownAtK B bo (fun (_ : Unit) => #[.slice A M.length c]) _ () X Y row h1 hg hr, h2.by hg ?_, h3⟩
  rcases h2.2 with ⟨e, _⟩ | ⟨b, cap, cur, e, _, h4, _⟩
  · injection e with e; exact .inl e
  · right
    intro e'
    injection e with e _ _
    rw [e] at e'
    obtain ⟨_, o, ho, hc⟩ := hr b e'.symm
    rw [show X.heap[b]? = _ from h4] at ho
    cases ho
    cases hc
theorem Shp.Ow.cells {α : Type} {S : Shp α} {T : TypeId} {W : World} {B g : Nat} {c : Nat} {M : List α} {o : Obj} (h : S.Ow T W B (some ⟨g, 0, none⟩) c M) (ho : W.heap[g]? = some o) : o.isCells = true := by
  rcases h.2 with ⟨e, _⟩ | ⟨b, cap, cur, e, _, h4, _⟩
  · injection e with e; cases e
  · injection e with e _ _
    injection e with e
    injection e with e
    subst e
    rw [show W.heap[g]? = _ from h4] at ho
    cases ho
    rfl
theorem Shp.Ow.put {α : Type} {S : Shp α} {T : TypeId} {W : World} {B D : Nat} {A : Option Addr} {c : Nat} {M : List α} {o o' : Obj} (h : S.Ow T W B A c M) (hD : W.heap[D]? = some o) (ho : o.isCells = false) : S.Ow T (W.putObj D o') B A c M := by
  refine h.by (grownBy_putObj' W D o') ?_
  rcases h.2 with ⟨e, _⟩ | ⟨b, cap, cur, e, _, h4, _⟩
  · injection e with e; exact .inl e
  · right
    intro e'
    injection e with e _ _
    rw [e] at e'
    injection e' with e'
    subst e'
    rw [show W.heap[b]? = _ from h4] at hD
    cases hD
    cases ho
theorem appInK {F : Fence} {n : Nat} {ops : Array Oper} {rest : List Oper} {o : Oper} {a : Act} {w : World} {Q : Exit → Act → World → Prop} (hgd : o.guard = none) (s x : Operand)
    (ho : o.op = .call { callee := .builtin .append, args := #[s, x], argTypes := #[24, 24] }) (A : Option Addr) (c : Nat) (L : List Ky) (hs : a.eval s = .slice A L.length c) (B : Nat) (hown : OwP w B A c L)
    (g0 : Nat) (r : Ky) (c0 : Nat) (hx : a.eval x = .slice (some ⟨g0, 0, none⟩) 1 c0) (hAt : At w g0 (kC r) 26) (hlen : L.length ≤ 1000000) (hB : B ≤ w.heap.size)
    (h : ∀ A' c' w', OwP w' B A' c' (L ++ [r]) → w.grownBy w' (A.map (·.block)) → (A'.map (·.block) = A.map (·.block) ∨ A'.map (·.block) = some w.heap.size) → wpListIn F n Try.prog ops Q rest (a.put o.dst (.slice A' (L.length + 1) c')) w') :
    wpListIn F n Try.prog ops Q (o :: rest) a w := by
  refine wpListIn_plain hgd fun K hK' => ?_
  have hN := Shp.Row.toNews (Shp.Rd.new1 (S := shK) hAt rfl)
  obtain ⟨A', c', w', hrun, q1, q2, q3⟩ := run_app_gen Try.underlying24 infoP rfl shK.pos hown (A1 := some ⟨g0, 0, none⟩) (m := 1) (c1 := c0) (by simp) (by rw [shK.cs_one]; rfl) hN (shK.cs_ones [r]) (by omega) (by decide) hB o.type
  have key := h A' c' w' (by unfold OwP Shp.Ow; rw [shK.cs_app, List.length_append]; exact q1) q2 q3
  unfold Oper.wpIn
  refine ⟨?_, ?_⟩
  · simp [Oper.about, ho, resolve, Target.leads, Sem.run_pure]
  · rw [Oper.semAt_plain F _ _ (by rw [ho]; intro c hc'; cases hc')]
    simp [execOp, ho, resolve, invoke, builtin, hs, hx, hrun, Result.andThen]
    exact hK' _ _ key
theorem zip1K (X : Array Value) (i : Nat) (a : Value) : Array.foldl (fun t x => t.setIfInBounds x.1 x.2) X ((#[i] : Array Nat).zip #[a]) = X.setIfInBounds i a := by
  rw [← Array.foldl_toList]; simp
theorem over_stop {L pre0 : List Ky} {k : Ky} (hd : L.Nodup) (h : pre0 ++ [k] <+: L.reverse) : overK L k = pre0.reverse := by
  obtain ⟨rest, hr⟩ := h
  have hL : L = rest.reverse ++ k :: pre0.reverse := by
    have := congrArg List.reverse hr
    simp at this
    exact this.symm
  have hm : k ∈ L := by rw [hL]; simp
  have hix : ixK L k = rest.reverse.length := by
    refine ix_first (by rw [hL]; simp) (fun x hx e => ?_)
    subst e
    rw [hL, List.take_left] at hx
    rw [hL, List.nodup_append] at hd
    exact hd.2.2 x hx x (by simp) rfl
  unfold overK
  rw [if_pos hm, hix, hL, show rest.reverse ++ k :: pre0.reverse = (rest.reverse ++ [k]) ++ pre0.reverse by simp]
  exact List.drop_left' (by simp)
theorem over_done {L : List Ky} {k : Ky} (h : ∀ x ∈ L.reverse, x ≠ k) : overK L k = [] := if_neg fun hm => h k (List.mem_reverse.2 hm) rfl

set_option maxRecDepth 100000 in
set_option maxHeartbeats 8000000 in
theorem pOverK {w : World} {B pa c : Nat} {A : Option Addr} {L : List Ky} (h : PrS w B pa A c L) (hl : L.length ≤ 100000) (k : Ky) :
    Calls Try.prog 17 #[.pointer (some ⟨pa, 0, none⟩), kV k] w fun e w' => ∃ A' c', e = .returned (.slice A' (overK L k).length c') ∧ OwP w' w.heap.size A' c' (overK L k) ∧ Bl w w' := by
  refine (callsIn_wide (n := 5)).1 ?_
  refine callsIn_of_wp_marks Try.func17 rfl trivial ?_ rfl
  simp only [Try.ntmps17, List.size_toArray, List.length_cons, List.length_nil, Nat.reduceAdd, Nat.reduceSub, Array.replicate_succ, Array.replicate_zero, List.push_toArray, List.append_toArray, List.nil_append, List.cons_append]
  have a1 := ((At.new w (kC k) 26).alloc (.cells #[.slice none 0 0] 24)).alloc (.cells #[.slice none 0 0] 24)
  have a2 := (At.newAt (w := w.alloc (.cells (kC k) 26)) (n := w.heap.size + 1) (by simp) #[.slice none 0 0] 24).alloc (.cells #[.slice none 0 0] 24)
  have a3 := At.newAt (w := (w.alloc (.cells (kC k) 26)).alloc (.cells #[.slice none 0 0] 24)) (n := w.heap.size + 2) (by simp) #[.slice none 0 0] 24
  have G0 := (((Bl.refl w).alloc (.cells (kC k) 26)).alloc (.cells #[.slice none 0 0] 24)).alloc (.cells #[.slice none 0 0] 24)
  gi_wp2_with (refine ⟨trivial, ?_⟩; gi_at_call 26; refine (callsIn_wide.2 (pDownK (h.bl G0) hl)).mono ?_; rintro e w6 ⟨bq, AD, cD, rfl, hbq, aq, oq, g6⟩)
  have b1 := a1.bl g6
  have b2 := a2.bl g6
  have b3 := a3.bl g6
  have G6 := G0.trans g6
  have hs6 : w.heap.size + 3 ≤ w6.heap.size := by have := g6.size; simp at this; omega
  simp at hbq
  have hcD := oq.caps
  obtain ⟨Z, hZ⟩ : ∃ Z, Z = w6 := ⟨_, rfl⟩
  obtain ⟨sz, hsz⟩ : ∃ sz, sz = w.heap.size := ⟨_, rfl⟩
  have hs60 := g6.size
  simp at hs60
  have oq3 : OwP w6 (w.heap.size + 3) AD cD L := oq.low (by simp)
  clear oq a1 a2 a3 g6 G0
  rw [← hsz] at b1 b2 b3 hs6 hbq oq3 hs60 ⊢
  have hV : ∀ W', Bl w6 W' → ValK (sz + 2) W' := fun W' g => ⟨none, 0, 0, (b3.bl g).cell 0, fun k hk => by cases hk⟩
  have hRow : ∀ W' wr, Bl w6 W' → KpK (sz + 2) W' wr → wr.cell? ⟨bq, 0, none⟩ = some (.slice AD L.length cD) ∧ shK.Rd wr AD L := fun W' wr gW hK => by
    have hr : ∀ k, ¬ RowAtK (sz + 2) W' k := fun k ⟨A1, n1, c1, h1, h2⟩ => by
      rw [(b3.bl gW).cell 0] at h1
      injection h1 with h1
      injection h1 with e1
      subst e1
      cases h2
    refine ⟨((KpK.fr hK (hV W' gW) ⟨by omega, hr _⟩ (aq.bl gW)).2).cell 0, ?_⟩
    have o2 : OwP W' (sz + 3) AD cD L := oq3.bl gW
    have o3 : OwP wr (sz + 3) AD cD L := by
      refine ⟨o2.1, ?_⟩
      rcases o2.2 with hn | ⟨g, cap, cur, h1, h2, h3, h4⟩
      · exact .inl hn
      · exact .inr ⟨g, cap, cur, h1, h2, (KpK.fr hK (hV W' gW) ⟨by omega, hr _⟩ h3).2, h4⟩
    exact o3.rd
  have hnd := h.nd
  have hpost : ∀ V' A c M, OwP V' (sz + 3) A c M → M = overK L k → w.grownBy V' none → ∃ A' c', Ending.returned (.slice A M.length c) = .returned (.slice A' (overK L k).length c') ∧ OwP V' w.heap.size A' c' (overK L k) ∧ Bl w V' := fun V' A c M h1 h2 h3 => by
    subst h2
    exact ⟨A, c, rfl, h1.low (by omega), By.none h3⟩
  replace hpost := Lib.hid hpost
  have hov1 := Lib.hid (fun pre0 (hp : pre0 ++ [k] <+: L.reverse) => over_stop hnd hp)
  have hov2 := Lib.hid (fun (hx : ∀ x ∈ L.reverse, x ≠ k) => over_done hx)
  have GB : w.grownBy w6 none := G6.byr none
  have hwl : w.heap.size ≤ w6.heap.size := G6.size
  have hwsz : w.heap.size ≤ sz + 3 := by omega
  have hwsz1 : w.heap.size ≤ sz + 1 := by omega
  have hwsz2 : w.heap.size ≤ sz + 2 := by omega
  replace hsz := Lib.hid hsz
  refine range_laid (by omega) (gf := 37) (lb := #[.pointer (some ⟨bq, 0, none⟩)]) rfl (enters_of Try.func37 (by kernel_rfl) rfl)
    (downStops (sz + 2) (5 - 1) (by omega) bq AD cD L hl w6 hRow)
    (fun h k => h.trans k) (fun W l o o' _ hl ho _ => KpK.book W l o o' hl ho) (fun W o => KpK.gr ((Gr.refl W).alloc o)) (Below.refl _ _) (fun _ => rfl)
    (fun pre V' => At V' sz (kC k) 26 ∧ At V' (sz + 1) #[.slice none 0 0] 24 ∧ (∃ A c M, At V' (sz + 2) #[.slice A M.length c] 24 ∧ OwP V' (sz + 3) A c M ∧ (M = pre ∧ ∀ x ∈ pre, x ≠ k)) ∧ w.grownBy V' none ∧ w6.heap.size ≤ V'.heap.size)
    (fun cx pre V' => cx = .ret ∧ (∃ A c M, At V' (sz + 1) #[.slice A M.length c] 24 ∧ OwP V' (sz + 3) A c M ∧ (∃ pre0, pre = pre0 ++ [k] ∧ M = pre0.reverse)) ∧ w.grownBy V' none)
    ((ownAtK _ _ _ _).and ((ownAtK _ _ _ _).and ((ownRowK _ _ _ _ _ (fun pre M => M = pre ∧ ∀ x ∈ pre, x ≠ k)).and ((ownByK _ (by omega)).and (ownSizeK _ _)))))
    (fun cx => (ownFrom_pure _ _).and ((ownRowK _ _ _ _ _ (fun pre M => ∃ pre0, pre = pre0 ++ [k] ∧ M = pre0.reverse)).and (ownByK _ (by omega))))
    ⟨b1, b2, ⟨none, 0, [], b3, Shp.Ow.nil _ _, rfl, by simp⟩, GB, Nat.le_refl _⟩
    (fun x => .cells (kC x) 26)
    (fun x b => { tmps := #[.pointer (some ⟨pa, 0, none⟩), kV k, undef, .pointer (some ⟨sz, 0, none⟩), .pointer (some ⟨sz + 1, 0, none⟩), .pointer (some ⟨sz + 2, 0, none⟩), .pointer (some ⟨b, 0, none⟩), .pointer (some ⟨pa, 0, none⟩), .func (.func 37) #[] #[.pointer (some ⟨bq, 0, none⟩)], kV x, undef, undef, undef, undef, undef, undef, undef, undef, undef, undef], defers := [] }) ?assign ?body ?done ?stop
  case assign =>
    intro l x W' K' hK'
    dsimp only [kP]
    rw [zip1K]
    simp only [List.setIfInBounds_toArray, List.set_cons_succ, List.set_cons_zero]
    gi_wp2
    exact hK'
  case body =>
    rintro l pre x b W' ⟨i0, i1, ⟨A, c, M, i2, own, rfl, hpre⟩, hby, hszz⟩ hb hbl hlen2
    have ib : At W' b (kC x) 26 := hb
    have x0 : W'.cell? ⟨sz, 0, none⟩ = some (.int .i64 k.1) := i0.cell 0
    have x1 : W'.cell? ⟨sz, 1, none⟩ = some (.int .i64 k.2) := i0.cell 1
    have y0 : W'.cell? ⟨b, 0, none⟩ = some (.int .i64 x.1) := ib.cell 0
    have y1 : W'.cell? ⟨b, 1, none⟩ = some (.int .i64 x.2) := ib.cell 1
    have l0 : W'.cell? ⟨sz + 2, 0, none⟩ = some (.slice A M.length c) := i2.cell 0
    have lf := i2.free 0
    have r0 : W'.cell? ⟨sz + 1, 0, none⟩ = some (.slice none 0 0) := i1.cell 0
    have rf := i1.free 0
    have hMl : M.length ≤ 100000 := by omega
    have hlA : ∀ g, A.map (·.block) = some g → g < W'.heap.size ∧ sz + 3 ≤ g := fun g hg => ⟨own.ltn g hg, own.above hg⟩
    have hne1 : some (sz + 1) ≠ A.map (·.block) := fun e => by have := (hlA _ e.symm).2; omega
    have hne2 : some (sz + 2) ≠ A.map (·.block) := fun e => by have := (hlA _ e.symm).2; omega
    by_cases hq : x = k
    · subst hq
      have cR := revK own hMl
      have P9 : ∀ w9, W'.grownBy w9 (A.map (·.block)) → w9.cell? ⟨sz + 2, 0, none⟩ = some (.slice A M.length c) ∧ w9.cell? ⟨sz + 1, 0, none⟩ = some (.slice none 0 0) ∧ w9.frozen? ⟨sz + 1, 0, none⟩ = false := fun w9 g => ⟨(i2.grown g hne2).cell 0, (i1.grown g hne1).cell 0, (i1.grown g hne1).free 0⟩
      replace P9 := Lib.hid P9
      gi_wp2_with (refine ⟨trivial, ?_⟩; gi_at_call 35; refine (CallsIn.inRound l (callsIn_wide.2 cR)).mono ?_; rintro e w9 ⟨rfl, own9, g9⟩; obtain ⟨u0, u1, u2⟩ := P9.out w9 g9)
      have gS := grownBy_setCell' w9 (sz + 1) (.slice A M.length c)
      have i19 := (i1.grown g9 hne1).put 0 (.slice A M.length c)
      have hneA : A = none ∨ A.map (·.block) ≠ some (sz + 1) := by
        rcases own9.lies with rfl | ⟨g1, rfl, h1, h2⟩
        · exact .inl rfl
        · right; simp; omega
      refine ⟨?_, rfl, ⟨A, c, M.reverse, by rw [List.length_reverse]; exact i19, own9.by gS hneA, M, rfl, rfl⟩, ?_⟩
      · refine ((KeepsOthers.of_grownBy g9 (fun k o e ho => ?_)).trans (KeepsOthers.setCell _ _ _)).from _
        rcases own.lies with rfl | ⟨g1, rfl, _, _⟩
        · cases e
        · have e' : g1 = k := by injection e
          subst e'
          exact own.cells ho
      · exact by_rowK (by_rowAK hby g9 (fun g hg => by have := (hlA g hg).2; omega)) gS (by omega)
    · have hd := ky_ne hq
      have P9 : ∀ wa, (W'.alloc (.cells (kC x) 26)).grownBy wa (A.map (·.block)) → wa.cell? ⟨sz + 2, 0, none⟩ = some (.slice A M.length c) ∧ wa.frozen? ⟨sz + 2, 0, none⟩ = false := fun wa g => ⟨((i2.alloc _).grown g hne2).cell 0, ((i2.alloc _).grown g hne2).free 0⟩
      replace P9 := Lib.hid P9
      have hown := own.bl ((Bl.refl W').alloc (.cells (kC x) 26))
      gi_wp2_with (gi_at_builtin; refine appInK rfl (.tmp 16) (.tmp 18) rfl A c M rfl (sz + 3) hown W'.heap.size x 1 rfl (At.new W' (kC x) 26) (by omega) (by simp; omega) ?_; intro A' c' wa ow ap lies; obtain ⟨FA, FB⟩ := P9.out wa ap)
      have gS := grownBy_setCell' wa (sz + 2) (.slice A' (M.length + 1) c')
      have hltA : ∀ g, A'.map (·.block) = some g → g < wa.heap.size := ow.ltn
      have hneA : A' = none ∨ A'.map (·.block) ≠ some (sz + 2) := by
        rcases ow.lies with rfl | ⟨g1, rfl, h1, h2⟩
        · exact .inl rfl
        · right; simp; omega
      have at5 := i2.alloc (.cells (kC x) 26)
      have b5 := (at5.grown ap hne2).put 0 (.slice A' (M.length + 1) c')
      have lAw : ∀ g, A.map (·.block) = some g → g < (W'.alloc (.cells (kC x) 26)).heap.size ∧ g ≠ sz + 2 := fun g hg => ⟨by have := (hlA g hg).1; simp; omega, by have := (hlA g hg).2; omega⟩
      refine ⟨?_, (KpK.gr ((Gr.refl W').alloc (.cells (kC x) 26))).trans (KpK.app at5 lAw ap (lies.imp (fun h => h.symm) id) hltA), ((i0.alloc _).grown ap (fun e => by have := (hlA _ e.symm).2; omega)).grown gS (by simp), ((i1.alloc _).grown ap hne1).grown gS (by simp), ⟨A', c', M ++ [x], ?_, ow.by gS hneA, rfl, ?_⟩, ?_, ?_⟩
      · refine (((Gr.keepsK ((Gr.refl W').alloc (.cells (kC x) 26))).trans (KeepsOthers.of_grownBy ap (fun k o e ho => ?_))).trans (KeepsOthers.setCell _ _ _)).from _
        rcases own.lies with rfl | ⟨g1, rfl, _, _⟩
        · cases e
        · have e' : g1 = k := by injection e
          subst e'
          exact hown.cells ho
      · rw [List.length_append]; exact b5
      · have hall : ∀ y ∈ M ++ [x], y ≠ k := fun y hy => by
          rcases List.mem_append.1 hy with h' | h'
          · exact hpre y h'
          · rw [List.mem_singleton.1 h']; exact hq
        first | exact hall | (intro a b h'; exact hall (a, b) h')
      · exact by_rowK (by_rowAK (By.trans hby (((Bl.refl W').alloc (.cells (kC x) 26)).byr _)) ap (fun g hg => by have := (hlA g hg).2; omega)) gS (by omega)
      · exact Nat.le_trans hszz (Nat.le_trans (by simp) (Nat.le_trans ap.size gS.size))
  case done =>
    rintro D xs W' hD rfl ⟨i0, i1, ⟨A, c, M, i2, own, rfl, hpre⟩, hby, hszz⟩ hK'
    have r0 : W'.cell? ⟨sz + 1, 0, none⟩ = some (.slice none 0 0) := i1.cell 0
    have rf := i1.free 0
    have hO := hov2.out hpre
    replace hpre := Lib.hid hpre
    gi_wp2
    have gS := grownBy_setCell' W' (sz + 1) (.slice none 0 0)
    have hKX : (W'.setCell ⟨sz + 1, 0, none⟩ (.slice none 0 0)).heap[D]? = some (.deferred (some [])) := (Below.heap_setCell _ _ _ _ (by simp; omega)).trans hK'
    have hX := i1.put 0 (.slice none 0 0)
    have hbX := by_rowK hby gS (by omega)
    generalize W'.setCell ⟨sz + 1, 0, none⟩ (.slice none 0 0) = X at hX hbX hKX ⊢
    refine ⟨by simp, .inl ⟨_, _, rfl, run_takeDeferred hKX, ?_⟩⟩
    have hgp := grownBy_putObj' X D (.deferred none)
    have c5 : (X.putObj D (.deferred none)).cell? ⟨sz + 1, 0, none⟩ = some (.slice none 0 0) := (hX.grown hgp (by simp; omega)).cell 0
    refine ⟨.slice none 0 0, ?_, hpost.out _ none 0 [] (Shp.Ow.nil _ _) hO.symm (by_rowK hbX hgp (by omega))⟩
    simp [results, Try.results17, go_sem, c5]
  case stop =>
    rintro D cx pre W' hD hp ⟨rfl, ⟨A, c, M, i1, own, pre0, rfl, rfl⟩, hby⟩ hK'
    have hO := hov1.out pre0 hp
    gi_wp2
    refine ⟨by simp, .inl ⟨_, _, rfl, run_takeDeferred hK', ?_⟩⟩
    have hgp := grownBy_putObj' W' D (.deferred none)
    have c5 : (W'.putObj D (.deferred none)).cell? ⟨sz + 1, 0, none⟩ = some (.slice A pre0.reverse.length c) := (i1.grown hgp (by simp; omega)).cell 0
    refine ⟨.slice A pre0.reverse.length c, ?_, hpost.out _ A c _ (own.put hK' rfl) hO.symm (by_rowK hby hgp (by omega))⟩
    simp [results, Try.results17, go_sem, c5]

end Go.Proofs.Ytgjoipndhlngnaa
