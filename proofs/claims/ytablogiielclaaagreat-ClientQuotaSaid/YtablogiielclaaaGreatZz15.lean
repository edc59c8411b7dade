/-
  What is proved: a range over the points of rectangles in whose rounds a slice in a cell grows, or is written: what such a round keeps; an append within a round; which points rectangles one row high have. No conditions but bounds. what Fill of package image does to an image whose colors' block goes on behind them. No conditions but bounds. what solidRuns of package paint hands back. No conditions but bounds.
-/
import Derived.Test.YtablogiielclaaaGreatZz14
import Derived.Test.YtablogiielclaaaGreatZz10
import Derived.Deep.AppendLies
namespace Go.Proofs.YtablogiielclaaaGreat
open Go.RowKit Go.Sort Go.Shelf Go.Deep

attribute [local go_sem] Oper.semAt_some

/-- The cell at b holds a slice that lies in block k. -/
def RowAt (b : Nat) (W : World) (k : Nat) : Prop := ∃ A n c, W.cell? ⟨b, 0, none⟩ = some (.slice A n c) ∧ A.map (·.block) = some k
/-- The cell at b holds a slice that lies. -/
def Val (b : Nat) (W : World) : Prop := ∃ A n c, W.cell? ⟨b, 0, none⟩ = some (.slice A n c) ∧ ∀ k, A.map (·.block) = some k → k < W.heap.size
/-- Neither that cell's block nor that slice's. -/
def Fr (b : Nat) (W : World) (k : Nat) : Prop := k ≠ b ∧ ¬ RowAt b W k
/-- What a round keeps that writes that cell, or that slice, alone. -/
def KpS (b : Nat) (A B : World) : Prop := A.heap.size ≤ B.heap.size ∧ (Val b A → Val b B ∧ (∀ k, k < A.heap.size → RowAt b B k → RowAt b A k) ∧ ∀ k cs t, Fr b A k → At A k cs t → At B k cs t)
theorem KpS.refl (b : Nat) (A : World) : KpS b A A := ⟨Nat.le_refl _, fun h => ⟨h, fun _ _ h => h, fun _ _ _ _ h => h⟩⟩
theorem KpS.trans {b : Nat} {A B C : World} (h : KpS b A B) (k : KpS b B C) : KpS b A C := by
  refine ⟨Nat.le_trans h.1 k.1, fun hv => ?_⟩
  obtain ⟨h1, h2, h3⟩ := h.2 hv
  obtain ⟨k1, k2, k3⟩ := k.2 h1
  refine ⟨k1, fun i hi hr => h2 i hi (k2 i (Nat.lt_of_lt_of_le hi h.1) hr), fun i cs t hf ha => k3 i cs t ⟨hf.1, fun hr => hf.2 (h2 i ha.lt hr)⟩ (h3 i cs t hf ha)⟩
theorem KpS.val {b : Nat} {A B : World} (h : KpS b A B) (hv : Val b A) : Val b B := (h.2 hv).1
theorem KpS.fr {b k : Nat} {A B : World} {cs : Array Value} {t : TypeId} (h : KpS b A B) (hv : Val b A) (hf : Fr b A k) (ha : At A k cs t) : Fr b B k ∧ At B k cs t :=
  ⟨⟨hf.1, fun hr => hf.2 ((h.2 hv).2.1 k ha.lt hr)⟩, (h.2 hv).2.2 k cs t hf ha⟩
theorem KpS.by {b : Nat} {A B : World} {row : Option Nat} (g : A.grownBy B row) (hr : row ≠ some b) (hn : ∀ r, row = some r → RowAt b A r ∨ ∀ cs t, ¬ At A r cs t) : KpS b A B := by
  refine ⟨g.size, fun ⟨A0, n, c, hc, hl⟩ => ?_⟩
  have hB := g.cell hc (fun e => hr e.symm)
  refine ⟨⟨A0, n, c, hB, fun k hk => Nat.lt_of_lt_of_le (hl k hk) g.size⟩, fun k _ ⟨A1, n1, c1, h1, h2⟩ => ?_, fun k cs t hf ha => ha.kept g (fun e => ?_)⟩
  · rw [hB] at h1
    injection h1 with h1
    injection h1 with e1 e2 e3
    subst e1
    exact ⟨A0, n, c, hc, h2⟩
  · rcases hn k e.symm with h | h
    · exact hf.2 h
    · exact h cs t ha
theorem KpS.gr {b : Nat} {A B : World} (g : Gr A B) : KpS b A B := KpS.by (g.by none) (by simp) (fun r e => by cases e)
theorem KpS.book {b : Nat} (W : World) (l : Nat) (o o' : Obj) (hl : W.heap[l]? = some o) (ho : o.isCells = false) : KpS b W (W.putObj l o') := by
  by_cases hb : l = b
  · subst hb
    refine ⟨by simp [World.putObj], fun ⟨A0, n, c, hc, _⟩ => ?_⟩
    exfalso
    unfold World.cell? at hc
    simp only [hl] at hc
    cases o <;> simp_all [Obj.isCells]
  · refine KpS.by (row := some l) (grownBy_putObj' W l o') (by simpa using hb) (fun r e => .inr fun cs t ha => ?_)
    cases e
    unfold At at ha
    rw [ha] at hl
    cases hl
    cases ho
theorem Fr.new {b : Nat} {V w : World} (hv : Val b V) (h : KpS b V w) (o : Obj) : Fr b (w.alloc o) w.heap.size := by
  obtain ⟨A0, n, c, hc, hl⟩ := h.val hv
  have hb := World.block_lt_of_cell? _ _ hc
  dsimp only at hb
  refine ⟨by omega, fun ⟨A1, n1, c1, h1, h2⟩ => ?_⟩
  have hB := (((Gr.refl w).alloc o).by none).cell hc (by simp)
  rw [hB] at h1
  injection h1 with h1
  injection h1 with e1 e2 e3
  subst e1
  have := hl _ h2
  omega
/-- The slice grown by an append, and put back. -/
theorem KpS.app {b n c n' c' : Nat} {t : TypeId} {A A' : Option Addr} {w w' : World} (hat : At w b #[.slice A n c] t) (hl : ∀ k, A.map (·.block) = some k → k < w.heap.size ∧ k ≠ b) (g : w.grownBy w' (A.map (·.block))) (hA : A.map (·.block) = A'.map (·.block) ∨ A'.map (·.block) = some w.heap.size) (hlt : ∀ k, A'.map (·.block) = some k → k < w'.heap.size) :
    KpS b w (w'.setCell ⟨b, 0, none⟩ (.slice A' n' c')) := by
  have hne : some b ≠ A.map (·.block) := fun e => (hl b e.symm).2 rfl
  have h1 := (hat.kept g hne).put 0 (.slice A' n' c')
  have gS := grownBy_setCell' w' b (.slice A' n' c')
  have hb : (w'.setCell ⟨b, 0, none⟩ (.slice A' n' c')).cell? ⟨b, 0, none⟩ = some (.slice A' n' c') := by simpa using h1.cell 0
  refine ⟨Nat.le_trans g.size gS.size, fun _ => ⟨⟨A', n', c', hb, fun k hk => Nat.lt_of_lt_of_le (hlt k hk) gS.size⟩, fun k hk ⟨A1, n1, c1, q1, q2⟩ => ?_, fun k cs t hf ha => ?_⟩⟩
  · rw [hb] at q1
    injection q1 with q1
    injection q1 with e1 e2 e3
    subst e1
    rcases hA with hA | hA
    · exact ⟨A, n, c, hat.cell 0, hA.trans q2⟩
    · rw [hA] at q2
      injection q2 with q2
      omega
  · refine (ha.kept g (fun e => hf.2 ⟨A, n, c, hat.cell 0, e.symm⟩)).kept gS (by simpa using hf.1)

set_option maxRecDepth 100000 in
set_option maxHeartbeats 4000000 in
theorem pointsIterS (bo : Nat) (n : Nat) (hn : 1 ≤ n) (l bq tq : Nat) (A : Option Addr) (c : Nat) (R : List Rc) (J Jx : List (Pt R) → World → Prop)
    (hb : ∀ r ∈ R, -1000000 ≤ r.a ∧ r.c ≤ 1000000 ∧ -1000000 ≤ r.b ∧ r.d ≤ 1000000 ∧ r.a ≤ 1000000 ∧ r.b ≤ 1000000) (hlen : R.length ≤ 100000000)
    (hA : ∀ pre A B, J pre A → A.grownBy B none → J pre B)
    (hY : ∀ pre p W1, J pre W1 → pre.length < (ptsL R).length → YieldAt Fence.wide (n - 1) Tryz.prog l (ptV p) W1 fun e W' =>
      (e = .returned (.bool true) ∧ J (pre ++ [p]) W' ∧ KpS bo W1 W') ∨ (e = .returned (.bool false) ∧ Jx (pre ++ [p]) W'))
    (V : World) (hq : At V bq #[.slice A R.length c] tq) (hV : Val bo V) (hRow : ∀ wr, KpS bo V wr → Rs wr A R) (h0 : J [] V) :
    CallsIn Fence.wide n Tryz.prog 193 #[.func (.yield l) #[] #[], .pointer (some ⟨bq, 0, none⟩)] V fun e W' => (∃ v, e = .returned v) ∧
      ((∃ ys : List (Pt R), ys.map (·.1) = ptsL R ∧ J ys W') ∨ (∃ pre : List (Pt R), pre.map (·.1) <+: ptsL R ∧ Jx pre W')) := by
  refine callsIn_of_wp Tryz.func193 rfl trivial ?_ rfl
  simp only [Tryz.ntmps193, List.size_toArray, List.length_cons, List.length_nil, Nat.reduceAdd, Nat.reduceSub, Array.replicate_succ, Array.replicate_zero, List.push_toArray, List.append_toArray, List.nil_append, List.cons_append]
  have q0 : V.cell? ⟨bq, 0, none⟩ = some (.slice A R.length c) := hq.cell 0
  obtain ⟨N, hN⟩ : ∃ N, N = R.length := ⟨_, rfl⟩
  rw [← hN] at q0 hlen
  have hN' := Lib.hid hN
  clear hN hq
  gi_wp2
  clear q0
  gi_loopw [9] (fun i wr => ∃ (k : Nat) (pre : List (Pt R)), k ≤ N ∧ i = .int .i64 k ∧ Hid (pre.map (·.1) = ptsL (R.take k)) ∧ J pre wr ∧ KpS bo V wr)
    (fun i _ => N - (intOf i).toNat)
  case atStart => exact ⟨0, [], Nat.zero_le _, rfl, Lib.hid (by simp [ptsL]), h0, KpS.refl _ _⟩
  case round =>
    obtain ⟨k, pre, hk, rfl, hpre, hJ, hK⟩ := hrel
    by_cases hlt : k < N
    · obtain ⟨r, hr⟩ := list_at (show k < R.length by rw [← hN'.out]; exact hlt)
      obtain ⟨b, off, rfl, hrow⟩ := (hRow wr hK).opened (by have := hN'.out; omega)
      obtain ⟨e1, e2, e3, e4⟩ := hrow k r hr
      obtain ⟨b1, b2, b3, b4, b5, b6⟩ := hb r (List.mem_of_getElem? hr)
      have hpp := fun j i hj hi => pts_pre (j := j) (i := i) hr hj hi
      have hps := ptsL_succ hr
      have hK1 := hK.trans (KpS.gr (b := bo) ((Gr.refl wr).alloc (.cells #[.int .i64 r.a, .int .i64 r.b, .int .i64 r.c, .int .i64 r.d] 31)))
      have hJ1 := hA _ _ _ hJ (((Gr.refl wr).alloc (.cells #[.int .i64 r.a, .int .i64 r.b, .int .i64 r.c, .int .i64 r.d] 31)).by none)
      have B4 := At.new wr #[.int .i64 r.a, .int .i64 r.b, .int .i64 r.c, .int .i64 r.d] 31
      have F4 := Fr.new (b := bo) hV hK (.cells #[.int .i64 r.a, .int .i64 r.b, .int .i64 r.c, .int .i64 r.d] 31)
      have hnx : nX r = (r.c - r.a).toNat := rfl
      have hny : nY r = (r.d - r.b).toNat := rfl
      obtain ⟨ra, rb, rc, rd⟩ := r
      dsimp only at *
      generalize nX ⟨ra, rb, rc, rd⟩ = nx at *
      generalize nY ⟨ra, rb, rc, rd⟩ = ny at *
      have HPP := Lib.hid hpp
      have HPS := Lib.hid hps
      have HNX := Lib.hid hnx
      have HNY := Lib.hid hny
      clear hpp hps hr hrow hnx hny
      gi_wp2
      obtain ⟨V1, hV1⟩ : ∃ V1, V1 = wr.alloc (.cells #[.int .i64 ra, .int .i64 rb, .int .i64 rc, .int .i64 rd] 31) := ⟨_, rfl⟩
      rw [← hV1] at hJ1 hK1 B4 F4 ⊢
      clear hV1 e1 e2 e3 e4 hJ hK
      generalize wr.heap.size = kb at *
      gi_loopw [5] (fun yv w2 => ∃ (jy : Nat) (pre2 : List (Pt R)), jy ≤ ny ∧ yv = .int .i64 (rb + (jy : Int)) ∧ Hid (pre2.map (·.1) = ptsL (R.take k) ++ rectP ra rb nx jy) ∧ J pre2 w2 ∧ KpS bo V w2 ∧ At w2 kb #[.int .i64 ra, .int .i64 rb, .int .i64 rc, .int .i64 rd] 31 ∧ Fr bo w2 kb)
        (fun yv _ => (rd - intOf yv).toNat)
      case atStart => exact ⟨0, pre, Nat.zero_le _, by simp, Lib.hid (by rw [hpre.out]; simp [rectP]), hJ1, hK1, B4, F4⟩
      case round =>
        obtain ⟨jy, pre2, hjy, rfl, hpre2, hJ2, hK2, B2, F2⟩ := hrel
        have y1 : wr.cell? ⟨kb, 1, none⟩ = some (.int .i64 rb) := B2.cell 1
        have y3 : wr.cell? ⟨kb, 3, none⟩ = some (.int .i64 rd) := B2.cell 3
        by_cases hlt2 : jy < ny
        · have hc2 : rb + (jy : Int) < rd := by have := HNY.out; omega
          have y0 : wr.cell? ⟨kb, 0, none⟩ = some (.int .i64 ra) := B2.cell 0
          gi_wp2
          clear y0 y1 y3
          gi_loopw [6] (fun xv w3 => ∃ (ix : Nat) (pre3 : List (Pt R)), ix ≤ nx ∧ xv = .int .i64 (ra + (ix : Int)) ∧ Hid (pre3.map (·.1) = ptsL (R.take k) ++ (rectP ra rb nx jy ++ rowP ra ix (rb + (jy : Int)))) ∧ J pre3 w3 ∧ KpS bo V w3 ∧ At w3 kb #[.int .i64 ra, .int .i64 rb, .int .i64 rc, .int .i64 rd] 31 ∧ Fr bo w3 kb)
            (fun xv _ => (rc - intOf xv).toNat)
          case atStart => exact ⟨0, pre2, Nat.zero_le _, by simp, Lib.hid (by rw [hpre2.out]; simp [rowP]), hJ2, hK2, B2, F2⟩
          case round =>
            obtain ⟨ix, pre3, hix, rfl, hpre3, hJ3, hK3, B3, F3⟩ := hrel
            have z2 : wr.cell? ⟨kb, 2, none⟩ = some (.int .i64 rc) := B3.cell 2
            by_cases hlt3 : ix < nx
            · have hc3 : ra + (ix : Int) < rc := by have := HNX.out; omega
              have hp1 := HPP.out jy (ix + 1) hlt2 hlt3
              have hmem : (ra + (ix : Int), rb + (jy : Int)) ∈ ptsL R := hp1.subset (by rw [rowP_succ]; simp)
              have hp2 : (pre3 ++ [(⟨(ra + (ix : Int), rb + (jy : Int)), hmem⟩ : Pt R)]).map (·.1) = ptsL (R.take k) ++ (rectP ra rb nx jy ++ rowP ra (ix + 1) (rb + (jy : Int))) := by
                rw [List.map_append, hpre3.out, rowP_succ]; simp
              have hlen3 : pre3.length < (ptsL R).length := by
                have h1 := hp1.length_le
                rw [← hp2] at h1
                simp at h1
                omega
              have hYY := hY pre3 ⟨(ra + (ix : Int), rb + (jy : Int)), hmem⟩ wr hJ3 hlen3
              have rv : ptV (⟨(ra + (ix : Int), rb + (jy : Int)), hmem⟩ : Pt R) = #[.int .i64 (ra + (ix : Int)), .int .i64 (rb + (jy : Int))] := rfl
              rw [rv] at hYY
              have HP1 := Lib.hid hp1
              have HP2 := Lib.hid hp2
              clear hp1 hp2 rv hlen3
              obtain ⟨fn, tmps, assign, body, hyy, hRR⟩ := hYY
              gi_wp2_with fail
              refine hRR.mono ?_
              rintro e W3 (⟨rfl, hJ4, hk4⟩ | ⟨rfl, hJx4⟩)
              · gi_wp2
                go_roundw
                case rel => exact ⟨ix + 1, _, by omega, by simp; omega, HP2, hJ4, hK3.trans hk4, (KpS.fr hk4 (hK3.val hV) F3 B3).2, (KpS.fr hk4 (hK3.val hV) F3 B3).1⟩
                case measure => simp [intOf]; omega
              · gi_wp2
                refine bodyPost_ret (results_none rfl _ _ _) rfl ?_
                exact ⟨⟨_, rfl⟩, .inr ⟨_, by rw [HP2.out]; exact HP1.out, hJx4⟩⟩
            · obtain rfl : ix = nx := by omega
              have hc3 : rc ≤ ra + (ix : Int) := by have := HNX.out; omega
              gi_wp2
              go_roundw
              case rel => exact ⟨jy + 1, pre3, by omega, by simp; omega, Lib.hid (by rw [hpre3.out, rectP_succ]), hJ3, hK3, B3, F3⟩
              case measure => simp [intOf]; omega
        · obtain rfl : jy = ny := by omega
          have hc2 : rd ≤ rb + (jy : Int) := by have := HNY.out; omega
          gi_wp2
          go_roundw
          case rel => exact ⟨k + 1, pre2, by omega, by simp, Lib.hid (by rw [hpre2.out, HPS.out]), hJ2, hK2⟩
          case measure => simp [intOf]; omega
    · obtain rfl : k = N := by omega
      gi_wp2
      go_end0
      exact ⟨⟨_, rfl⟩, .inl ⟨pre, by rw [hpre.out, hN'.out, List.take_length], hJ⟩⟩


theorem pointsStopsS (b n : Nat) (hn : 1 ≤ n) (bq tq : Nat) (A : Option Addr) (c : Nat) (R : List Rc)
    (hb : ∀ r ∈ R, -1000000 ≤ r.a ∧ r.c ≤ 1000000 ∧ -1000000 ≤ r.b ∧ r.d ≤ 1000000 ∧ r.a ≤ 1000000 ∧ r.b ≤ 1000000) (hlen : R.length ≤ 100000000)
    (V : World) (hq : At V bq #[.slice A R.length c] tq) (hV : Val b V) (hRow : ∀ W' wr, Bl V W' → KpS b W' wr → Rs wr A R) :
    SeqStopsK Fence.wide n Tryz.prog 193 #[.pointer (some ⟨bq, 0, none⟩)] (ptV (R := R)) (KpS b)
      (fun ys => ys.map (·.1) = ptsL R) (fun pre => pre.map (·.1) <+: ptsL R) (ptsL R).length V := fun l J Jx W' hW' hJ _ hY h0 => by
  have gW : Bl V W' := hW'
  have hv : Val b W' := by
    obtain ⟨A0, n0, c0, h1, h2⟩ := hV
    exact ⟨A0, n0, c0, gW.by.cell h1 (by simp), fun k hk => Nat.lt_of_lt_of_le (h2 k hk) gW.size⟩
  exact pointsIterS b n hn l bq tq A c R J Jx hb hlen (fun pre A B h hg => hJ pre A B none h hg (fun r e => by cases e)) hY W' (hq.bl gW) hv (fun wr hK => hRow W' wr gW hK) h0

theorem wpListIn_app_r {F : Fence} {n : Nat} {ops : Array Oper} {rest : List Oper} {o : Oper} {a : Act} {w : World} {Q : Exit → Act → World → Prop} (hgd : o.guard = none) (s x : Operand)
    (ho : o.op = .call { callee := .builtin .append, args := #[s, x], argTypes := #[32, 32] }) (A : Option Addr) (c : Nat) (L : List Rc) (hs : a.eval s = .slice A L.length c) (B : Nat) (hown : OwR w B A c L)
    (g0 : Nat) (r : Rc) (c0 : Nat) (hx : a.eval x = .slice (some ⟨g0, 0, none⟩) 1 c0) (hAt : At w g0 #[.int .i64 r.a, .int .i64 r.b, .int .i64 r.c, .int .i64 r.d] 31) (hlen : L.length ≤ 1000000000000) (hB : B ≤ w.heap.size)
    (h : ∀ A' c' w', OwR w' B A' c' (L ++ [r]) → Apd w w' A A' → (∀ k, A'.map (·.block) = some k → k < w'.heap.size) → wpListIn F n Tryz.prog ops Q rest (a.put o.dst (.slice A' (L.length + 1) c')) w') :
    wpListIn F n Tryz.prog ops Q (o :: rest) a w := by
  obtain ⟨i0, hi, hz0, hz1, hz2⟩ := info_parts infoR
  refine wpListIn_plain hgd fun K hK' => ?_
  obtain ⟨g, cap, w', hrun, h2, h3, h4, h5⟩ := run_append_lies (P := Tryz.prog) w 32 o.type B 31 i0 _ 4 32 Tryz.underlying32 hi hz0 hz1 hz2 rfl (by decide) (.slice A L.length c) L.length (cR L) hown
    ⟨g0, 0, none⟩ 1 c0 (cR [r]) (by rw [cR_len]; rfl) (World.news_of_block hAt) (cR_one _) (by decide) (by unfold maxLen; omega) (by omega) hB w.heap.size rfl
  have key := h (some ⟨g, 0, none⟩) cap w' (by unfold OwR; rw [cR_app, List.length_append]; exact h2) ⟨by rw [slice_block] at h3; exact h3, by
    rw [slice_block] at h4
    rcases h4 with h4 | h4
    · exact .inl h4
    · right; show some g = _; rw [h4]⟩ (fun k hk => by
      have hk' : some g = some k := hk
      injection hk' with hk'
      rw [← hk']; exact h5)
  unfold Oper.wpIn
  refine ⟨?_, ?_⟩
  · simp [Oper.about, ho, resolve, Target.leads, Sem.run_pure]
  · rw [Oper.semAt_plain F _ _ (by rw [ho]; intro c hc'; cases hc')]
    simp [execOp, ho, resolve, invoke, builtin, hs, hx, hrun, Result.andThen]
    exact hK' _ _ key

/-- Rectangles one row high that have just these points. -/
structure RunQ (f : Int → Int → Bool) (ps : List (Int × Int)) (S : List Rc) : Prop where
  has : ∀ x y, hasL S x y = true ↔ ((x, y) ∈ ps ∧ f x y = true)
  flat : ∀ r ∈ S, r.d = r.b + 1 ∧ 0 ≤ r.a ∧ r.a < r.c ∧ r.c ≤ 256 ∧ 0 ≤ r.b ∧ r.b < 256
  len : S.length ≤ ps.length
theorem RunQ.nil (f : Int → Int → Bool) : RunQ f [] [] := ⟨fun x y => by simp [hasL], fun r hr => by simp at hr, Nat.le_refl _⟩
theorem RunQ.skip {f : Int → Int → Bool} {ps : List (Int × Int)} {S : List Rc} (h : RunQ f ps S) {x0 y0 : Int} (hf : f x0 y0 = false) : RunQ f (ps ++ [(x0, y0)]) S := by
  refine ⟨fun x y => ?_, h.flat, by have := h.len; simp; omega⟩
  rw [h.has, List.mem_append]
  constructor
  · rintro ⟨h1, h2⟩; exact ⟨.inl h1, h2⟩
  · rintro ⟨h1 | h1, h2⟩
    · exact ⟨h1, h2⟩
    · simp at h1
      obtain ⟨rfl, rfl⟩ := h1
      rw [hf] at h2
      cases h2
theorem unit_has (x0 y0 x y : Int) : hasB x0 y0 (x0 + 1) (y0 + 1) x y = true ↔ (x, y) = (x0, y0) := by
  unfold hasB
  rw [decide_eq_true_eq, Prod.mk.injEq]
  omega
theorem RunQ.app {f : Int → Int → Bool} {ps : List (Int × Int)} {S : List Rc} (h : RunQ f ps S) {x0 y0 : Int} (hf : f x0 y0 = true) (hx : 0 ≤ x0 ∧ x0 < 256) (hy : 0 ≤ y0 ∧ y0 < 256) : RunQ f (ps ++ [(x0, y0)]) (S ++ [⟨x0, y0, x0 + 1, y0 + 1⟩]) := by
  refine ⟨fun x y => ?_, fun r hr => ?_, by have := h.len; simp; omega⟩
  · have e : hasL (S ++ [⟨x0, y0, x0 + 1, y0 + 1⟩]) x y = (hasL S x y || hasB x0 y0 (x0 + 1) (y0 + 1) x y) := by unfold hasL; rw [List.any_append]; simp
    rw [e, Bool.or_eq_true, h.has, unit_has, List.mem_append, List.mem_singleton]
    constructor
    · rintro (⟨h1, h2⟩ | h1)
      · exact ⟨.inl h1, h2⟩
      · refine ⟨.inr h1, ?_⟩
        injection h1 with h1 h2
        rw [h1, h2]; exact hf
    · rintro ⟨h1 | h1, h2⟩
      · exact .inl ⟨h1, h2⟩
      · exact .inr h1
  · rcases List.mem_append.1 hr with hr | hr
    · exact h.flat r hr
    · rw [List.mem_singleton.1 hr]
      dsimp only
      omega
theorem RunQ.ext {f : Int → Int → Bool} {ps : List (Int × Int)} {S : List Rc} (h : RunQ f ps S) {x0 y0 : Int} {k : Nat} {r : Rc} (hk : S[k]? = some r) (hc : r.c = x0) (hb : r.b = y0) (hf : f x0 y0 = true) (hx : 0 ≤ x0 ∧ x0 < 256) : RunQ f (ps ++ [(x0, y0)]) (S.set k ⟨r.a, r.b, x0 + 1, r.d⟩) := by
  obtain ⟨f1, f2, f3, f4, f5, f6⟩ := h.flat r (List.mem_of_getElem? hk)
  have hkl : k < S.length := (List.getElem?_eq_some_iff.1 hk).1
  refine ⟨fun x y => ?_, fun q hq => ?_, by have := h.len; simp; omega⟩
  · have e1 : hasL (S.set k ⟨r.a, r.b, x0 + 1, r.d⟩) x y = (hasL (S.take k) x y || (hasB r.a r.b (x0 + 1) r.d x y || hasL (S.drop (k + 1)) x y)) := by
      rw [List.set_eq_take_append_cons_drop, if_pos hkl]; unfold hasL; rw [List.any_append, List.any_cons]
    have e2 : hasL S x y = (hasL (S.take k) x y || (hasB r.a r.b r.c r.d x y || hasL (S.drop (k + 1)) x y)) := by
      have : S = S.take k ++ r :: S.drop (k + 1) := by
        rw [← (List.getElem?_eq_some_iff.1 hk).2, List.getElem_cons_drop, List.take_append_drop]
      conv => lhs; rw [this]
      unfold hasL; rw [List.any_append, List.any_cons]
    have e3 : hasB r.a r.b (x0 + 1) r.d x y = (hasB r.a r.b r.c r.d x y || hasB x0 y0 (x0 + 1) (y0 + 1) x y) := by
      unfold hasB
      rw [← Bool.decide_or, decide_eq_decide]
      omega
    have e4 : hasL (S.set k ⟨r.a, r.b, x0 + 1, r.d⟩) x y = (hasL S x y || hasB x0 y0 (x0 + 1) (y0 + 1) x y) := by
      rw [e1, e2, e3]
      cases hasL (S.take k) x y <;> cases hasB r.a r.b r.c r.d x y <;> cases hasB x0 y0 (x0 + 1) (y0 + 1) x y <;> cases hasL (S.drop (k + 1)) x y <;> rfl
    rw [e4, Bool.or_eq_true, h.has, unit_has, List.mem_append, List.mem_singleton]
    constructor
    · rintro (⟨h1, h2⟩ | h1)
      · exact ⟨.inl h1, h2⟩
      · refine ⟨.inr h1, ?_⟩
        injection h1 with h1 h2
        rw [h1, h2]; exact hf
    · rintro ⟨h1 | h1, h2⟩
      · exact .inl ⟨h1, h2⟩
      · exact .inr h1
  · rcases List.mem_or_eq_of_mem_set hq with hq | rfl
    · exact h.flat q hq
    · dsimp only
      omega

end Go.Proofs.YtablogiielclaaaGreat
namespace Go.Proofs.YtablogiielclaaaGreat
open Go.RowKit Go.Sort Go.Shelf

attribute [local go_sem] Oper.semAt_some

theorem ownImgX {β : Type} (B pm pc W H : Nat) (Sp : List Value) (L : β → List Int) : OwnFrom B (fun s V => ImgX V pm pc W H (L s) Sp) := fun s X Y row hs hg hr =>
  hs.kept hg (fun e => by obtain ⟨_, o, ho, hc⟩ := hr pm e.symm; rw [show X.heap[pm]? = _ from hs.hd] at ho; cases ho; cases hc)
    (fun e => by obtain ⟨_, o, ho, hc⟩ := hr pc e.symm; rw [show X.heap[pc]? = _ from hs.cs] at ho; cases ho; cases hc)

set_option maxRecDepth 100000 in
set_option maxHeartbeats 2000000 in
theorem fillX {pm pc W H : Nat} {L : List Int} {Sp : List Value} (w : World) (hI : ImgX w pm pc W H L Sp) (a b c d : Int) (q : Int) (hq : C32 q) (hm : mayC q = true) (x0 x1 y0 y1 : Nat) (hcut : cutR a b c d 0 0 W H = ⟨x0, y0, x1, y1⟩) (hx0 : x0 ≤ x1) (hx : y0 < y1 → x0 < x1) (hw : x1 ≤ W) (hy : y0 ≤ y1) (hh : y1 ≤ H) :
    Calls Tryz.prog 31 #[.pointer (some ⟨pm, 0, none⟩), .agg #[.int .i64 a, .int .i64 b, .int .i64 c, .int .i64 d], .int .u32 q] w
      (fun e w' => e = .returned (.int .i64 (areaI x0 y0 x1 y1)) ∧ w.grownBy w' (some pc) ∧ ImgX w' pm pc W H (fillR W x0 x1 q L (List.range' y0 (y1 - y0))) Sp) := by
  have cm := fun w => cmay1 q w hq
  rw [hm] at cm
  have cc := fun w => cut1 a b c d 0 0 W H w
  rw [hcut] at cc
  dsimp only at cc
  clear hcut
  have mixed : Tryz.prog.follows .mixedOrders = true := by kernel_rfl
  refine (callsIn_wide (n := 5)).1 ?_
  refine callsIn_of_wp_marks Tryz.func31 rfl trivial ?_ rfl
  simp only [Tryz.ntmps31, List.size_toArray, List.length_cons, List.length_nil, Nat.reduceAdd, Nat.reduceSub, Array.replicate_succ, Array.replicate_zero, List.push_toArray, List.append_toArray, List.nil_append, List.cons_append]
  gi_wp2_with fail
  refine ⟨trivial, ?_⟩
  refine (callsIn_wide.2 (cm _)).mono ?_
  rintro e w1 ⟨rfl, g1⟩
  have I1 := hI.gr (((Gr.refl w).alloc _).alloc _ |>.trans g1)
  have r1 := (((At.new w #[.int .i64 a, .int .i64 b, .int .i64 c, .int .i64 d] 31).alloc (.cells #[.int .u32 q] 52)).gr g1)
  have q1 := (At.newAt (w := w.alloc (.cells #[.int .i64 a, .int .i64 b, .int .i64 c, .int .i64 d] 31)) (n := w.heap.size + 1) (by simp) #[.int .u32 q] 52).gr g1
  have G1 := ((((Gr.refl w).alloc _).alloc _).trans g1)
  gi_wp2
  rename_i K hK
  have rest : ∀ V : World, At V w.heap.size #[.int .i64 x0, .int .i64 y0, .int .i64 x1, .int .i64 y1] 31 → At V (w.heap.size + 1) #[.int .u32 q] 52 → Gr w V →
      K { tmps := #[.pointer (some ⟨pm, 0, none⟩), .agg #[.int .i64 a, .int .i64 b, .int .i64 c, .int .i64 d], .int .u32 q, undef, .pointer (some ⟨w.heap.size, 0, none⟩), .pointer (some ⟨w.heap.size + 1, 0, none⟩), .int .i64 0, undef, undef, undef, .int .u32 q, .bool true, .bool false,
          .agg #[.int .i64 a, .int .i64 b, .int .i64 c, .int .i64 d], .pointer (some ⟨pm, 0, none⟩), .agg #[.int .i64 0, .int .i64 0, .int .i64 W, .int .i64 H], .agg #[.int .i64 x0, .int .i64 y0, .int .i64 x1, .int .i64 y1],
          undef, undef, undef, undef, undef, undef, undef, undef, undef, undef, undef, undef, undef, undef, undef, undef, undef], defers := [] } V := by
    intro V R4 q4 G4
    refine hK _ _ ?_
    clear hK r1 q1 I1 G1 g1 cm cc mixed
    have I4 := hI.gr G4
    have hlt4 := hI.hd.lt
    have hlt5 := hI.cs.lt
    obtain ⟨t0, t1, t2, t3⟩ := cells4 R4
    gi_wp2_with fail
    refine ⟨trivial, ?_⟩
    refine (callsIn_wide.2 (spans1 _ _ _ _ _ _)).mono ?_
    rintro e w5 ⟨rfl, rfl⟩
    clear t0 t1 t2 t3
    have bm := (At.new V #[.pointer (some ⟨pm, 0, none⟩)] 58).alloc (.cells #[.int .i64 x0, .int .i64 y0, .int .i64 x1, .int .i64 y1] 31)
    have br := At.newAt (w := V.alloc (.cells #[.pointer (some ⟨pm, 0, none⟩)] 58)) (n := V.heap.size + 1) (by simp) #[.int .i64 x0, .int .i64 y0, .int .i64 x1, .int .i64 y1] 31
    have I5 := (I4.gr ((Gr.refl V).alloc (.cells #[.pointer (some ⟨pm, 0, none⟩)] 58))).gr ((Gr.refl _).alloc (.cells #[.int .i64 x0, .int .i64 y0, .int .i64 x1, .int .i64 y1] 31))
    have R5 := (R4.gr ((Gr.refl V).alloc (.cells #[.pointer (some ⟨pm, 0, none⟩)] 58))).gr ((Gr.refl _).alloc (.cells #[.int .i64 x0, .int .i64 y0, .int .i64 x1, .int .i64 y1] 31))
    have q5 := (q4.gr ((Gr.refl V).alloc (.cells #[.pointer (some ⟨pm, 0, none⟩)] 58))).gr ((Gr.refl _).alloc (.cells #[.int .i64 x0, .int .i64 y0, .int .i64 x1, .int .i64 y1] 31))
    have G5 := (G4.alloc (.cells #[.pointer (some ⟨pm, 0, none⟩)] 58)).alloc (.cells #[.int .i64 x0, .int .i64 y0, .int .i64 x1, .int .i64 y1] 31)
    have hs4 := G4.size
    have hs5 : ((V.alloc (.cells #[.pointer (some ⟨pm, 0, none⟩)] 58)).alloc (.cells #[.int .i64 x0, .int .i64 y0, .int .i64 x1, .int .i64 y1] 31)).heap.size = V.heap.size + 2 := by simp
    have hlr := R4.lt
    gi_wp2
    obtain ⟨U, hU⟩ : ∃ U, U = (V.alloc (.cells #[.pointer (some ⟨pm, 0, none⟩)] 58)).alloc (.cells #[.int .i64 x0, .int .i64 y0, .int .i64 x1, .int .i64 y1] 31) := ⟨_, rfl⟩
    rw [← hU] at bm br I5 R5 q5 G5 hs5 ⊢
    clear hU
    refine wpIn_rangeFunc_ownG rfl (by omega) (gf := 156) (lb := #[.pointer (some ⟨V.heap.size + 1, 0, none⟩), .pointer (some ⟨V.heap.size, 0, none⟩)]) rfl trivial (enters_of Tryz.func156 (by kernel_rfl) rfl)
      (spansStops (5 - 1) (by omega) V.heap.size (V.heap.size + 1) _ _ pm pc W H L.length (L.length + Sp.length) x0 x1 y0 y1 hx hw hy hh U I5.hd (Nat.le_add_right _ _) I5.len I5.w2 I5.h2 bm br)
      (fun h k => h.trans k) (Keep3.book (by omega) (by omega) (by omega)) (Below.refl _ _) (fun _ => rfl)
      (fun pre V' => ImgX V' pm pc W H (fillR W x0 x1 q L (pre.map (·.1))) Sp ∧ At V' w.heap.size #[.int .i64 x0, .int .i64 y0, .int .i64 x1, .int .i64 y1] 31 ∧ At V' (w.heap.size + 1) #[.int .u32 q] 52 ∧ w.grownBy V' (some pc))
      (fun _ _ _ => False)
      ((ownImgX _ _ _ _ _ _ _).and ((ownAt _ _ _ _).and ((ownAt _ _ _ _).and (ownBy _ (by omega)))))
      (fun _ _ _ _ _ hs _ _ => hs)
      ⟨I5, R5, q5, G5.by _⟩
      (fun x => { tmps := #[.pointer (some ⟨pm, 0, none⟩), .agg #[.int .i64 a, .int .i64 b, .int .i64 c, .int .i64 d], .int .u32 q, undef, .pointer (some ⟨w.heap.size, 0, none⟩), .pointer (some ⟨w.heap.size + 1, 0, none⟩), .int .i64 0, undef, .slice (some ⟨pc, x.1 * W + x0, none⟩) (x1 - x0) (L.length + Sp.length - (x.1 * W + x0)), undef, .int .u32 q, .bool true, .bool false,
          .agg #[.int .i64 a, .int .i64 b, .int .i64 c, .int .i64 d], .pointer (some ⟨pm, 0, none⟩), .agg #[.int .i64 0, .int .i64 0, .int .i64 W, .int .i64 H], .agg #[.int .i64 x0, .int .i64 y0, .int .i64 x1, .int .i64 y1],
          .pointer (some ⟨pm, 0, none⟩), .agg #[.int .i64 x0, .int .i64 y0, .int .i64 x1, .int .i64 y1], .func (.func 156) #[] #[.pointer (some ⟨V.heap.size + 1, 0, none⟩), .pointer (some ⟨V.heap.size, 0, none⟩)], .int .i64 (x.1 : Int), .slice (some ⟨pc, x.1 * W + x0, none⟩) (x1 - x0) (L.length + Sp.length - (x.1 * W + x0)),
          undef, undef, undef, undef, undef, undef, undef, undef, undef, undef, undef, undef], defers := [] }) ?assign ?body ?done ?stop
    case assign =>
      intro l x W' K' hK'
      dsimp only [rowV]
      gi_wp2
      exact hK'
    case body =>
      rintro l pre x W' ⟨hi, hr, hc, hb⟩ hlen
      have hf : fillR W x0 x1 q L ((pre ++ [x]).map (·.1)) = putRun (fillR W x0 x1 q L (pre.map (·.1))) (x.1 * W + x0) (List.replicate (x1 - x0) q) := by rw [List.map_append]; exact fillR_snoc _ _ _ _ _ _ _
      have hp : x.1 * W + x0 + (x1 - x0) ≤ L.length := by
        have := row_of (show x1 - 1 < W by omega) x.2
        rw [← hI.len] at this
        have := hx (by omega)
        omega
      have hFl : (fillR W x0 x1 q L (pre.map (·.1))).length = L.length := fillR_len _ _ _ _ _ _
      have hle := area_le hI.w2 hI.h2
      rw [← hI.len] at hle
      generalize fillR W x0 x1 q L (pre.map (·.1)) = F at *
      generalize L.length = n at *
      generalize x.1 * W + x0 = p at *
      obtain ⟨m, hm'⟩ : ∃ m, m = x1 - x0 := ⟨_, rfl⟩
      rw [← hm'] at hf hp ⊢
      clear hm'
      obtain ⟨cc, hcc⟩ : ∃ cc, cc = n + Sp.length - p := ⟨_, rfl⟩
      have hmc : m ≤ cc := by omega
      rw [← hcc]
      clear hcc
      have hf' := Lib.hid hf
      have hFl' := Lib.hid hFl
      clear hf hFl
      gi_wp2
      gi_loopw [24] (fun i wr => ∃ k : Nat, k ≤ m ∧ i = .int .i64 k ∧ ImgX wr pm pc W H (putRun F p (List.replicate k q)) Sp ∧ At wr w.heap.size #[.int .i64 x0, .int .i64 y0, .int .i64 x1, .int .i64 y1] 31 ∧ At wr (w.heap.size + 1) #[.int .u32 q] 52 ∧ w.grownBy wr (some pc) ∧ KeepsOthers W' wr ∧ Keep3 pm V.heap.size (V.heap.size + 1) W' wr)
        (fun i _ => m - (intOf i).toNat)
      case atStart => exact ⟨0, Nat.zero_le _, rfl, hi, hr, hc, hb, KeepsOthers.refl _, Keep3.refl _ _ _ _⟩
      case round =>
        obtain ⟨k, hk, rfl, Ik, rk, qk, bk, ok, kk⟩ := hrel
        by_cases hlt : k < m
        · obtain ⟨old, hold⟩ : ∃ old, (putRun F p (List.replicate k q))[p + k]? = some old := list_at (by rw [putRun_len, hFl'.out]; omega)
          have c1 := Ik.at hold
          have f1 := Ik.cs.free (p + k)
          have c2 : wr.cell? ⟨w.heap.size + 1, 0, none⟩ = some (.int .u32 q) := qk.cell 0
          clear hold
          gi_wp2
          go_roundw
          case rel =>
            refine ⟨k + 1, by omega, by simp, ?_, rk.far (p := ⟨pc, p + k, none⟩) (by simp; omega) _, qk.far (p := ⟨pc, p + k, none⟩) (by simp; omega) _, by_set (p := ⟨pc, p + k, none⟩) bk _, ok.trans (KeepsOthers.setCell _ _ _), kk.trans ⟨Below.heap_setCell _ _ _ _ (by simp; exact hI.ne), Below.heap_setCell _ _ _ _ (by simp; omega), Below.heap_setCell _ _ _ _ (by simp; omega)⟩⟩
            have := Ik.set (p + k) q (by rw [putRun_len, hFl'.out]; omega)
            rw [List.replicate_succ', putRun_snoc, List.length_replicate]
            exact this
          case measure => simp [intOf]; omega
        · obtain rfl : k = m := by omega
          gi_wp2
          exact ⟨ok.from _, kk, by rw [hf'.out]; exact Ik, rk, qk, bk⟩
    case done =>
      rintro D ys W' hD hys ⟨hi, hr, hc, hb⟩ hK'
      have hys' := Lib.hid hys
      clear hys
      obtain ⟨t0, t1, t2, t3⟩ := cells4 hr
      have hmay : mayB x0 y0 x1 y1 = true := by
        have := hI.w2; have := hI.h2
        rcases Nat.lt_or_ge y0 y1 with h | h
        · have := hx h; simp [mayB]; omega
        · simp [mayB]; omega
      gi_wp2_with fail
      refine ⟨trivial, ?_⟩
      refine (callsIn_wide.2 (area1 _ _ _ _ _ hmay)).mono ?_
      rintro e w6 ⟨rfl, g6⟩
      have hK6 : w6.heap[D]? = some (.deferred (some [])) := (g6.below.block D (Array.getElem?_eq_some_iff.1 hK').1).trans hK'
      gi_wp2
      refine ⟨by simp, .inl ⟨_, _, rfl, run_takeDeferred hK6, ?_⟩⟩
      have hgp := grownBy_putObj' w6 D (.deferred none)
      refine ⟨_, results_tmp rfl _ _ _, rfl, ?_, ?_⟩
      · exact by_row (by_gr hb g6) hgp (by omega)
      · rw [← hys'.out]
        exact (hi.gr g6).kept hgp (by simp; omega) (by simp; omega)
    case stop =>
      rintro D c pre W' _ _ h _
      exact h.elim
  obtain ⟨t0, t1, t2, t3⟩ := cells4 r1
  have bx := fun (V : World) (h : ImgX V pm pc W H L Sp) => boxX V h
  refine wpIn_mono (Q := Exit.then K (fun _ _ _ => False)) ?_ then_false
  gi_region_with_o (first | (refine ⟨trivial, ?_⟩; gi_at_call 100; refine (callsIn_wide.2 (bx _ (I1.gr (Gr.refl _).drew))).mono ?_; rintro e w2 ⟨rfl, g2⟩; have R2 := r1.drew.gr g2; obtain ⟨a0, a1, a2, a3⟩ := cells4 R2) | (refine ⟨trivial, ?_⟩; gi_at_call 102; refine (callsIn_wide.2 (cc _)).mono ?_; rintro e w3 ⟨rfl, g3⟩; have R3 := R2.gr g3; obtain ⟨b0, b1, b2, b3⟩ := cells4 R3; obtain ⟨f0, f1, f2, f3⟩ := free4 R3))
  all_goals
    refine rest _ (R3.put4 (.int .i64 x0) (.int .i64 y0) (.int .i64 x1) (.int .i64 y1)) ((((((q1.drew).gr g2).gr g3).far (p := ⟨w.heap.size, 0, none⟩) (by simp) (.int .i64 x0)).far (p := ⟨w.heap.size, 1, none⟩) (by simp) (.int .i64 y0)).far (p := ⟨w.heap.size, 2, none⟩) (by simp) (.int .i64 x1) |>.far (p := ⟨w.heap.size, 3, none⟩) (by simp) (.int .i64 y1)) ?_
    exact (((((G1.drew.trans g2).trans g3).setCell (p := ⟨w.heap.size, 0, none⟩) (Nat.le_refl _) (.int .i64 x0)).setCell (p := ⟨w.heap.size, 1, none⟩) (Nat.le_refl _) (.int .i64 y0)).setCell (p := ⟨w.heap.size, 2, none⟩) (Nat.le_refl _) (.int .i64 x1)).setCell (p := ⟨w.heap.size, 3, none⟩) (Nat.le_refl _) (.int .i64 y1)

end Go.Proofs.YtablogiielclaaaGreat
namespace Go.Proofs.YtablogiielclaaaGreat
open Go.RowKit Go.Sort Go.Shelf Go.Deep

attribute [local go_sem] Oper.semAt_some

theorem OwR.still2 {w wr : World} {B : Nat} {A : Option Addr} {c : Nat} {R : List Rc} (h : OwR w B A c R) (hk : ∀ k cs t, k < w.heap.size → At w k cs t → At wr k cs t) : Rs wr A R := by
  have h' : OwR wr B A c R := by
    refine ⟨h.1, ?_⟩
    rcases h.2 with hn | ⟨g, cap, cur, h1, h2, h3, h4⟩
    · exact .inl hn
    · exact .inr ⟨g, cap, cur, h1, h2, hk g cur _ (At.lt h3) h3, h4⟩
  exact h'.rs
theorem ownRun {R : List Rc} (B bo B1 : Nat) (f : Int → Int → Bool) : OwnFrom B (fun (pre : List (Pt R)) V => ∃ A c S, At V bo #[.slice A S.length c] 32 ∧ OwR V B1 A c S ∧ RunQ f (pre.map (·.1)) S) := fun s X Y row hs hg hr => by
  obtain ⟨A, c, S, h1, h2, h3⟩ := hs
  refine ⟨A, c, S, ownAt B bo (fun (_ : Unit) => #[.slice A S.length c]) _ () X Y row h1 hg hr, h2.grown hg ?_, h3⟩
  rcases h2.2 with ⟨e, _⟩ | ⟨b, cap, cur, e, _, h4, _⟩
  · injection e with e; exact .inl e
  · right
    intro e'
    injection e with e _ _
    rw [e] at e'
    obtain ⟨_, o, ho, hc⟩ := hr b e'.symm
    rw [show X.heap[b]? = _ from h4] at ho
    cases ho
    cases hc
theorem own_cells {W : World} {B g : Nat} {c : Nat} {S : List Rc} {o : Obj} (h : OwR W B (some ⟨g, 0, none⟩) c S) (ho : W.heap[g]? = some o) : o.isCells = true := by
  rcases h.2 with ⟨e, _⟩ | ⟨b, cap, cur, e, _, h4, _⟩
  · injection e with e; cases e
  · injection e with e _ _
    injection e with e
    injection e with e
    subst e
    rw [show W.heap[g]? = _ from h4] at ho
    cases ho
    rfl
theorem own_put {W : World} {B D : Nat} {A : Option Addr} {c : Nat} {S : List Rc} {o o' : Obj} (h : OwR W B A c S) (hD : W.heap[D]? = some o) (ho : o.isCells = false) : OwR (W.putObj D o') B A c S := by
  refine h.grown (grownBy_putObj' W D o') ?_
  rcases h.2 with ⟨e, _⟩ | ⟨b, cap, cur, e, _, h4, _⟩
  · injection e with e; exact .inl e
  · right
    intro e'
    injection e with e _ _
    rw [e] at e'
    injection e' with e'
    subst e'
    rw [show W.heap[b]? = _ from h4] at hD
    cases hD
    cases ho
theorem by_rowA {a b c : World} {row r : Option Nat} (h : a.grownBy b row) (g : b.grownBy c r) (hr : ∀ k, r = some k → a.heap.size ≤ k) : a.grownBy c row := by
  cases r with
  | none => exact by_trans h ⟨g.os, g.tape, g.output, g.size, fun k hk _ => g.block k hk (by simp)⟩
  | some k => exact by_row h g (hr k rfl)

set_option maxRecDepth 100000 in
set_option maxHeartbeats 8000000 in
theorem runs1X {pm pc W H B0 : Nat} {L : List Int} {Sp : List Value} (A0 : Option Addr) (k0 : Nat) (R : List Rc) (w : World) (hI : ImgX w pm pc W H L Sp) (h32 : ∀ c ∈ L, C32 c) (hR : OwR w B0 A0 k0 R)
    (hb : ∀ r ∈ R, -1000000 ≤ r.a ∧ r.c ≤ 1000000 ∧ -1000000 ≤ r.b ∧ r.d ≤ 1000000 ∧ r.a ≤ 1000000 ∧ r.b ≤ 1000000) (hlen : R.length ≤ 100000000) (hpt : ∀ x y, ((x, y) : Int × Int) ∈ ptsL R → InP W H (x, y)) (hnd : (ptsL R).Nodup) :
    Calls Tryz.prog 132 #[.pointer (some ⟨pm, 0, none⟩), .slice A0 R.length k0] w (WQ w (RunQ (fun x y => pA (atV W H L x y) == 255) (ptsL R))) := by
  refine (callsIn_wide (n := 5)).1 ?_
  refine callsIn_of_wp_marks Tryz.func132 rfl trivial ?_ rfl
  simp only [Tryz.ntmps132, List.size_toArray, List.length_cons, List.length_nil, Nat.reduceAdd, Nat.reduceSub, Array.replicate_succ, Array.replicate_zero, List.push_toArray, List.append_toArray, List.nil_append, List.cons_append]
  have a1 := ((At.new w #[.pointer (some ⟨pm, 0, none⟩)] 58).alloc (.cells #[.slice none 0 0] 32)).alloc (.cells #[.slice A0 R.length k0] 32)
  have a2 := (At.newAt (w := w.alloc (.cells #[.pointer (some ⟨pm, 0, none⟩)] 58)) (n := w.heap.size + 1) (by simp) #[.slice none 0 0] 32).alloc (.cells #[.slice A0 R.length k0] 32)
  have a3 := At.newAt (w := (w.alloc (.cells #[.pointer (some ⟨pm, 0, none⟩)] 58)).alloc (.cells #[.slice none 0 0] 32)) (n := w.heap.size + 2) (by simp) #[.slice A0 R.length k0] 32
  have G0 := (((Gr.refl w).alloc (.cells #[.pointer (some ⟨pm, 0, none⟩)] 58)).alloc (.cells #[.slice none 0 0] 32)).alloc (.cells #[.slice A0 R.length k0] 32)
  gi_wp2_with (refine ⟨trivial, ?_⟩; gi_at_call 133; refine (callsIn_wide.2 (points1 _ _ _ _)).mono ?_; rintro e w6 ⟨rfl, rfl⟩)
  have hlm := hI.hd.lt
  have hlc := hI.cs.lt
  obtain ⟨Z, hZ⟩ : ∃ Z, Z = ((w.alloc (.cells #[.pointer (some ⟨pm, 0, none⟩)] 58)).alloc (.cells #[.slice none 0 0] 32)).alloc (.cells #[.slice A0 R.length k0] 32) := ⟨_, rfl⟩
  have hzZ : Z.heap.size = w.heap.size + 3 := by rw [hZ]; simp
  rw [← hZ] at a1 a2 a3 G0 ⊢
  clear hZ
  have hV : Val (w.heap.size + 1) Z := ⟨none, 0, 0, a2.cell 0, fun k hk => by cases hk⟩
  have hRow : ∀ W' wr, Bl Z W' → KpS (w.heap.size + 1) W' wr → Rs wr A0 R := fun W' wr gW hK => hR.still2 fun k cs t hk ha => by
    have hc := (a2.bl gW).cell 0
    refine (hK.2 ⟨none, 0, 0, hc, fun k hk => by cases hk⟩).2.2 k cs t ⟨by omega, fun ⟨A1, n1, c1, h1, h2⟩ => ?_⟩ ((ha.gr G0).bl gW)
    rw [hc] at h1
    injection h1 with h1
    injection h1 with e1
    subst e1
    cases h2
  obtain ⟨f, hf⟩ : ∃ f : Int → Int → Bool, f = fun x y => pA (atV W H L x y) == 255 := ⟨_, rfl⟩
  have hfo : ∀ x y, f x y = (pA (atV W H L x y) == 255) := fun x y => by rw [hf]
  have hpl : (ptsL R).length ≤ 100000 := pts_len hI.w1 hI.w2 hI.h2 hnd (fun p hp => hpt p.1 p.2 hp)
  have hpost : ∀ V' A c S, OwR V' (w.heap.size + 3) A c S → RunQ f (ptsL R) S → w.grownBy V' none → WQ w (RunQ (fun x y => pA (atV W H L x y) == 255) (ptsL R)) (.returned (.slice A S.length c)) V' := fun V' A c S h1 h2 h3 => ⟨A, c, S, rfl, h1.cap, h1.base (by omega), by rw [← hf]; exact h2, bl_of h3⟩
  clear hf
  replace hpost := Lib.hid hpost
  have IZ := hI.gr G0
  have hw2 := hI.w2
  have hh2 := hI.h2
  replace hfo := Lib.hid hfo
  refine wpIn_rangeFunc_ownG rfl (by omega) (gf := 193) (lb := #[.pointer (some ⟨w.heap.size + 2, 0, none⟩)]) rfl trivial (enters_of Tryz.func193 (by kernel_rfl) rfl)
    (pointsStopsS (w.heap.size + 1) (5 - 1) (by omega) (w.heap.size + 2) _ A0 k0 R hb hlen Z a3 hV hRow)
    (fun h k => h.trans k) (fun W l o o' _ hl ho _ => KpS.book W l o o' hl ho) (Below.refl _ _) (fun _ => rfl)
    (fun pre V' => ImgX V' pm pc W H L Sp ∧ At V' w.heap.size #[.pointer (some ⟨pm, 0, none⟩)] 58 ∧ (∃ A c S, At V' (w.heap.size + 1) #[.slice A S.length c] 32 ∧ OwR V' (w.heap.size + 3) A c S ∧ RunQ f (pre.map (·.1)) S) ∧ w.grownBy V' none ∧ w.heap.size + 3 ≤ V'.heap.size)
    (fun _ _ _ => False)
    ((ownImgX _ _ _ _ _ _ _).and ((ownAt _ _ _ _).and ((ownRun (R := R) _ _ _ f).and ((ownBy _ (by omega)).and (ownSize _ _)))))
    (fun _ _ _ _ _ hs _ _ => hs)
    ⟨IZ, a1, ⟨none, 0, [], a2, OwR.nil _ _, RunQ.nil f⟩, G0.by _, by omega⟩
    (fun x => { tmps := #[.pointer (some ⟨pm, 0, none⟩), .slice A0 R.length k0, .pointer (some ⟨w.heap.size, 0, none⟩), undef, .slice none 0 0, .pointer (some ⟨w.heap.size + 1, 0, none⟩), .int .i64 x.1.1, .int .i64 x.1.2, undef, undef, undef, .slice A0 R.length k0, .func (.func 193) #[] #[.pointer (some ⟨w.heap.size + 2, 0, none⟩)], .int .i64 x.1.1, .int .i64 x.1.2, undef, undef, undef, undef, undef, undef, undef, undef, undef, undef, undef, undef, undef, undef, undef, undef, undef, undef, undef, undef, undef, undef, undef, undef, undef, undef, undef, undef, undef, undef, undef, undef, undef, undef, undef, undef, undef, undef, undef, undef, undef, undef, undef, undef, undef, undef, undef, undef, undef, undef, undef, undef], defers := [] }) ?assign ?body ?done ?stop
  case assign =>
    intro l x W' K' hK'
    dsimp only [ptV]
    gi_wp2
    exact hK'
  case body =>
    rintro l pre ⟨⟨px, py⟩, hp⟩ W' ⟨hi, i0, ⟨A, c, S, i1, own, hQ⟩, hby, hsz⟩ hlen2
    have hin := hpt px py hp
    obtain ⟨p1, p2, p3, p4⟩ : 0 ≤ px ∧ px < 256 ∧ 0 ≤ py ∧ py < 256 := by unfold InP at hin; dsimp only at hin; omega
    clear hin
    have cA := fun w' (g : Gr W' w') => atI w' (hi.gr g) px py
    have cS := fun w' => csolid1 (atV W H L px py) w' (atV_c32 px py h32)
    have hfp := hfo.out px py
    have hSl : S.length ≤ 100000 := by have := hQ.len; simp at this; omega
    have hpm : (pre ++ [(⟨(px, py), hp⟩ : Pt R)]).map (·.1) = pre.map (·.1) ++ [(px, py)] := by simp
    have hpm' := Lib.hid hpm
    have hQ' := Lib.hid hQ
    have hlA : ∀ k, A.map (·.block) = some k → k < W'.heap.size ∧ w.heap.size + 3 ≤ k := fun k hk => by
      rcases own.lies with rfl | ⟨g, rfl, h1, h2⟩
      · cases hk
      · cases hk; exact ⟨h2, h1⟩
    replace hlA := Lib.hid hlA
    clear hQ hpm
    generalize atV W H L px py = q at *
    generalize hasB 0 0 W H px py = hb0 at *
    have s0 := i0.cell 0
    dsimp only
    cases hso : (pA q == 255)
    · rw [hso] at cS hfp
      have hS2 := Lib.hid (hQ'.out.skip hfp)
      rw [← hpm'.out] at hS2
      clear hfp hso hQ'
      gi_wp2_with (first | (refine ⟨trivial, ?_⟩; gi_at_call 192; refine (CallsIn.inRound l (callsIn_wide.2 (cS _))).mono ?_; rintro e w4 ⟨rfl, g4⟩) | (refine ⟨trivial, ?_⟩; gi_at_call 30; refine (CallsIn.inRound l (callsIn_wide.2 (cA _ (Gr.refl _)))).mono ?_; rintro e w3 ⟨rfl, g3⟩))
      have g := g3.trans g4
      exact ⟨g.keeps.from _, KpS.gr g, hi.gr g, i0.gr g, ⟨A, c, S, i1.gr g, own.bl g.bl, hS2.out⟩, by_gr hby g, Nat.le_trans hsz g.size⟩
    · rw [hso] at cS hfp
      have fcell : ∀ w5, Gr W' w5 → w5.cell? ⟨w.heap.size + 1, 0, none⟩ = some (.slice A S.length c) ∧ w5.frozen? ⟨w.heap.size + 1, 0, none⟩ = false := fun w5 g => ⟨(i1.gr g).cell 0, (i1.gr g).free 0⟩
      have AFTER : ∀ w5 wa A' c', Gr W' w5 → (∀ k, A.map (·.block) = some k → k < w5.heap.size ∧ w.heap.size + 3 ≤ k) → OwR wa (w.heap.size + 3) A' c' (S ++ [⟨px, py, px + 1, py + 1⟩]) → Apd w5 wa A A' → (∀ k, A'.map (·.block) = some k → k < wa.heap.size) →
          KeepsFrom Z.heap.size W' (wa.setCell ⟨w.heap.size + 1, 0, none⟩ (.slice A' (S.length + 1) c')) ∧ KpS (w.heap.size + 1) W' (wa.setCell ⟨w.heap.size + 1, 0, none⟩ (.slice A' (S.length + 1) c')) ∧ (ImgX (wa.setCell ⟨w.heap.size + 1, 0, none⟩ (.slice A' (S.length + 1) c')) pm pc W H L Sp ∧ At (wa.setCell ⟨w.heap.size + 1, 0, none⟩ (.slice A' (S.length + 1) c')) w.heap.size #[.pointer (some ⟨pm, 0, none⟩)] 58 ∧ (∃ A8 c8 S8, At (wa.setCell ⟨w.heap.size + 1, 0, none⟩ (.slice A' (S.length + 1) c')) (w.heap.size + 1) #[.slice A8 S8.length c8] 32 ∧ OwR (wa.setCell ⟨w.heap.size + 1, 0, none⟩ (.slice A' (S.length + 1) c')) (w.heap.size + 3) A8 c8 S8 ∧ RunQ f ((pre ++ [(⟨(px, py), hp⟩ : Pt R)]).map (·.1)) S8) ∧ w.grownBy (wa.setCell ⟨w.heap.size + 1, 0, none⟩ (.slice A' (S.length + 1) c')) none ∧ w.heap.size + 3 ≤ (wa.setCell ⟨w.heap.size + 1, 0, none⟩ (.slice A' (S.length + 1) c')).heap.size) := by
        intro w5 wa A' c' g hl ow ap hlt
        have hne0 : ∀ b, b < w.heap.size + 3 → some b ≠ A.map (·.block) := fun b hb0 e => by have := (hl b e.symm).2; omega
        have gS := grownBy_setCell' wa (w.heap.size + 1) (.slice A' (S.length + 1) c')
        have at5 := i1.gr g
        have hS2 := hQ'.out.app hfp ⟨p1, p2⟩ ⟨p3, p4⟩
        rw [← hpm'.out] at hS2
        have hneA : A' = none ∨ A'.map (·.block) ≠ some (w.heap.size + 1) := by
          rcases ow.lies with rfl | ⟨g1, rfl, h1, h2⟩
          · exact .inl rfl
          · right; simp; omega
        refine ⟨?_, (KpS.gr g).trans (KpS.app at5 (fun k hk => ⟨(hl k hk).1, by have := (hl k hk).2; omega⟩) ap.1 ap.2 hlt), ?_, ?_, ⟨A', c', S ++ [⟨px, py, px + 1, py + 1⟩], ?_, ow.grown gS hneA, hS2⟩, ?_, ?_⟩
        · refine ((g.keeps.trans (KeepsOthers.of_grownBy ap.1 (fun k o e ho => ?_))).trans (KeepsOthers.setCell _ _ _)).from _
          rcases own.lies with rfl | ⟨g1, rfl, _, _⟩
          · cases e
          · have e' : g1 = k := by injection e
            subst e'
            exact own_cells (own.bl g.bl) ho
        · exact ((hi.gr g).kept ap.1 (hne0 _ (by omega)) (hne0 _ (by omega))).kept gS (by simp; omega) (by simp; omega)
        · exact ((i0.gr g).kept ap.1 (hne0 _ (by omega))).kept gS (by simp)
        · have := (at5.kept ap.1 (hne0 _ (by omega))).put 0 (.slice A' (S.length + 1) c')
          rw [List.length_append]
          simpa using this
        · exact by_row (by_rowA (by_gr hby g) ap.1 (fun k hk => by have := (hl k hk).2; omega)) gS (by omega)
        · exact Nat.le_trans hsz (Nat.le_trans g.size (Nat.le_trans ap.1.size gS.size))
      have frz := Lib.hid (fun (w5 wa : World) (g : Gr W' w5) (ap : w5.grownBy wa (A.map (·.block))) => (show wa.cell? ⟨w.heap.size + 1, 0, none⟩ = some (.slice A S.length c) ∧ wa.frozen? ⟨w.heap.size + 1, 0, none⟩ = false from ⟨((i1.gr g).kept ap (fun e => by have := (hlA.out _ e.symm).2; omega)).cell 0, ((i1.gr g).kept ap (fun e => by have := (hlA.out _ e.symm).2; omega)).free 0⟩))
      have hlAg := Lib.hid (fun (w5 : World) (g : Gr W' w5) (k : Nat) (hk : A.map (·.block) = some k) => (show k < w5.heap.size ∧ w.heap.size + 3 ≤ k from ⟨Nat.lt_of_lt_of_le (hlA.out k hk).1 g.size, (hlA.out k hk).2⟩))
      have AFT := Lib.hid AFTER
      clear AFTER
      obtain rfl | ⟨m, r, hm, hr⟩ : S = [] ∨ ∃ m r, S.length = m + 1 ∧ S[m]? = some r := by
        cases h : S with
        | nil => exact .inl rfl
        | cons a l => exact .inr ⟨l.length, (a :: l)[l.length]'(by simp), by simp, List.getElem?_eq_getElem _⟩
      · simp only [List.length_nil] at fcell
        replace fcell := Lib.hid fcell
        clear hso hfp hQ' hfo hpost
        gi_wp2_with (first | (refine ⟨trivial, ?_⟩; gi_at_call 192; refine (CallsIn.inRound l (callsIn_wide.2 (cS _))).mono ?_; rintro e w4 ⟨rfl, g4⟩; obtain ⟨f1, f2⟩ := fcell.out _ (g3.trans g4)) | (refine ⟨trivial, ?_⟩; gi_at_call 30; refine (CallsIn.inRound l (callsIn_wide.2 (cA _ (Gr.refl _)))).mono ?_; rintro e w3 ⟨rfl, g3⟩) | (gi_at_builtin; refine wpListIn_app_r rfl (.tmp 56) (.tmp 64) rfl A c [] rfl (w.heap.size + 3) (own.bl ((g3.trans g4).alloc (.cells #[.int .i64 px, .int .i64 py, .int .i64 (px + 1), .int .i64 (py + 1)] 31)).bl) w4.heap.size ⟨px, py, px + 1, py + 1⟩ 1 rfl (At.new w4 #[.int .i64 px, .int .i64 py, .int .i64 (px + 1), .int .i64 (py + 1)] 31) (by simp at hSl ⊢; try omega) (by have := (g3.trans g4).size; simp; omega) ?_; intro A' c' wa ow ap hlt; obtain ⟨FA, FB⟩ := frz.out _ wa ((g3.trans g4).alloc _) ap.1))
        exact AFT.out _ wa A' c' ((g3.trans g4).alloc _) (hlAg.out _ ((g3.trans g4).alloc _)) ow ap hlt
      · obtain ⟨g, rfl, hg1, hg2⟩ : ∃ g, A = some ⟨g, 0, none⟩ ∧ w.heap.size + 3 ≤ g ∧ g < W'.heap.size := by
          rcases own.lies with rfl | h
          · have h0 := own.cap
            have h1 := own.2
            rcases h1 with ⟨e, e2⟩ | ⟨_, _, _, e, _⟩
            · injection e with _ e3 _
              rw [hm] at e3
              cases e3
            · cases e
          · exact h
        have rcell := Lib.hid (fun (w5 : World) (g5 : Gr W' w5) => (own.bl g5.bl).row m r hr)
        have rfree := Lib.hid (fun (w5 : World) (g5 : Gr W' w5) (j : Nat) => (own.bl g5.bl).free j)
        have hrb := hQ'.out.flat r (List.mem_of_getElem? hr)
        have hml : m ≤ 100000 := by omega
        rw [hm] at fcell
        have hmS := Lib.hid hm
        have hrS := Lib.hid hr
        have hfpS := Lib.hid hfp
        replace fcell := Lib.hid fcell
        have hr1 : I64 r.c := by unfold I64; omega
        clear hso hfp hm hr hfo hpost hSl hpl
        by_cases hx : r.c = px
        · by_cases hy : r.b = py
          · gi_wp2_with (first | (refine ⟨trivial, ?_⟩; gi_at_call 192; refine (CallsIn.inRound l (callsIn_wide.2 (cS _))).mono ?_; rintro e w4 ⟨rfl, g4⟩; obtain ⟨f1, f2⟩ := fcell.out _ (g3.trans g4); obtain ⟨r1, r2, r3, r4⟩ := rcell.out _ (g3.trans g4); simp only [Nat.zero_add] at r1 r2 r3 r4; have rf := rfree.out _ (g3.trans g4) (m * 4 + 2)) | (refine ⟨trivial, ?_⟩; gi_at_call 30; refine (CallsIn.inRound l (callsIn_wide.2 (cA _ (Gr.refl _)))).mono ?_; rintro e w3 ⟨rfl, g3⟩))
            have gg := g3.trans g4
            have st := World.ownsRow.stored (j := m * 4 + 2) (u := .int .i64 (px + 1)) (own.bl gg.bl)
            have hs := cR_set S m r ⟨r.a, r.b, px + 1, r.d⟩ 2 (.int .i64 (px + 1)) hrS.out (by omega) rfl
            have hS2 := hQ'.out.ext hrS.out hx hy hfpS.out ⟨p1, p2⟩
            rw [← hpm'.out] at hS2
            have st1 : OwR (w4.setCell ⟨g, m * 4 + 2, none⟩ (.int .i64 (px + 1))) (w.heap.size + 3) (some ⟨g, 0, none⟩) c (S.set m ⟨r.a, r.b, px + 1, r.d⟩) := by
              unfold OwR
              rw [hs, List.length_set]
              exact st.1
            refine ⟨((gg.keeps).trans (KeepsOthers.setCell _ _ _)).from _, (KpS.gr gg).trans (KpS.by st.2 (by simp; omega) (fun r0 e => .inl ?_)), (hi.gr gg).kept st.2 (by simp; omega) (by simp; omega), (i0.gr gg).kept st.2 (by simp; omega), ⟨some ⟨g, 0, none⟩, c, S.set m ⟨r.a, r.b, px + 1, r.d⟩, ?_, st1, hS2⟩, by_row (by_gr hby gg) st.2 (by omega), ?_⟩
            · injection e with e
              subst e
              exact ⟨_, _, _, (i1.gr gg).cell 0, rfl⟩
            · rw [List.length_set]
              exact (i1.gr gg).kept st.2 (by simp; omega)
            · exact Nat.le_trans hsz (Nat.le_trans gg.size st.2.size)
          · gi_wp2_with (first | (refine ⟨trivial, ?_⟩; gi_at_call 192; refine (CallsIn.inRound l (callsIn_wide.2 (cS _))).mono ?_; rintro e w4 ⟨rfl, g4⟩; obtain ⟨f1, f2⟩ := fcell.out _ (g3.trans g4); obtain ⟨r1, r2, r3, r4⟩ := rcell.out _ (g3.trans g4); simp only [Nat.zero_add] at r1 r2 r3 r4; have rf := rfree.out _ (g3.trans g4) (m * 4 + 2)) | (refine ⟨trivial, ?_⟩; gi_at_call 30; refine (CallsIn.inRound l (callsIn_wide.2 (cA _ (Gr.refl _)))).mono ?_; rintro e w3 ⟨rfl, g3⟩) | (gi_at_builtin; refine wpListIn_app_r rfl (.tmp 56) (.tmp 64) rfl (some ⟨g, 0, none⟩) c S (by rw [hmS.out]; rfl) (w.heap.size + 3) (own.bl ((g3.trans g4).alloc (.cells #[.int .i64 px, .int .i64 py, .int .i64 (px + 1), .int .i64 (py + 1)] 31)).bl) w4.heap.size ⟨px, py, px + 1, py + 1⟩ 1 rfl (At.new w4 #[.int .i64 px, .int .i64 py, .int .i64 (px + 1), .int .i64 (py + 1)] 31) (by rw [hmS.out]; omega) (by have := (g3.trans g4).size; simp; omega) ?_; intro A' c' wa ow ap hlt; obtain ⟨FA, FB⟩ := frz.out _ wa ((g3.trans g4).alloc _) ap.1; rw [hmS.out]))
            have T := AFT.out _ wa A' c' ((g3.trans g4).alloc _) (hlAg.out _ ((g3.trans g4).alloc _)) ow ap hlt
            rw [hmS.out] at T
            exact T
        · gi_wp2_with (first | (refine ⟨trivial, ?_⟩; gi_at_call 192; refine (CallsIn.inRound l (callsIn_wide.2 (cS _))).mono ?_; rintro e w4 ⟨rfl, g4⟩; obtain ⟨f1, f2⟩ := fcell.out _ (g3.trans g4); obtain ⟨r1, r2, r3, r4⟩ := rcell.out _ (g3.trans g4); simp only [Nat.zero_add] at r1 r2 r3 r4; have rf := rfree.out _ (g3.trans g4) (m * 4 + 2)) | (refine ⟨trivial, ?_⟩; gi_at_call 30; refine (CallsIn.inRound l (callsIn_wide.2 (cA _ (Gr.refl _)))).mono ?_; rintro e w3 ⟨rfl, g3⟩) | (gi_at_builtin; refine wpListIn_app_r rfl (.tmp 56) (.tmp 64) rfl (some ⟨g, 0, none⟩) c S (by rw [hmS.out]; rfl) (w.heap.size + 3) (own.bl ((g3.trans g4).alloc (.cells #[.int .i64 px, .int .i64 py, .int .i64 (px + 1), .int .i64 (py + 1)] 31)).bl) w4.heap.size ⟨px, py, px + 1, py + 1⟩ 1 rfl (At.new w4 #[.int .i64 px, .int .i64 py, .int .i64 (px + 1), .int .i64 (py + 1)] 31) (by rw [hmS.out]; omega) (by have := (g3.trans g4).size; simp; omega) ?_; intro A' c' wa ow ap hlt; obtain ⟨FA, FB⟩ := frz.out _ wa ((g3.trans g4).alloc _) ap.1; rw [hmS.out]))
          have T := AFT.out _ wa A' c' ((g3.trans g4).alloc _) (hlAg.out _ ((g3.trans g4).alloc _)) ow ap hlt
          rw [hmS.out] at T
          exact T
  case done =>
    intro D xs W' hD hys h hK'
    obtain ⟨hi, i0, ⟨A, c, S, i1, own, hQ⟩, hby, hsz⟩ := h
    have hq2 : xs.map (·.1) = ptsL R := hys
    rw [hq2] at hQ
    have z0 : W'.cell? ⟨w.heap.size + 1, 0, none⟩ = some (.slice A S.length c) := i1.cell 0
    have hQ' := Lib.hid hQ
    clear hQ hq2 hys
    gi_wp2
    refine ⟨by simp, .inl ⟨_, _, rfl, run_takeDeferred hK', ?_⟩⟩
    have hgp := grownBy_putObj' W' D (.deferred none)
    refine ⟨_, results_tmp rfl _ _ _, ?_⟩
    exact hpost.out _ A c S (own_put own hK' rfl) hQ'.out (by_row hby hgp (by omega))
  case stop =>
    rintro D c pre W' _ _ h _
    exact h.elim
theorem runs1 {pm pc W H B0 : Nat} {L : List Int} (A0 : Option Addr) (k0 : Nat) (R : List Rc) (w : World) (hI : Img w pm pc W H L) (h32 : ∀ c ∈ L, C32 c) (hR : OwR w B0 A0 k0 R)
    (hb : ∀ r ∈ R, -1000000 ≤ r.a ∧ r.c ≤ 1000000 ∧ -1000000 ≤ r.b ∧ r.d ≤ 1000000 ∧ r.a ≤ 1000000 ∧ r.b ≤ 1000000) (hlen : R.length ≤ 100000000) (hpt : ∀ x y, ((x, y) : Int × Int) ∈ ptsL R → InP W H (x, y)) (hnd : (ptsL R).Nodup) :
    Calls Tryz.prog 132 #[.pointer (some ⟨pm, 0, none⟩), .slice A0 R.length k0] w (WQ w (RunQ (fun x y => pA (atV W H L x y) == 255) (ptsL R))) :=
  runs1X A0 k0 R w hI.x h32 hR hb hlen hpt hnd

end Go.Proofs.YtablogiielclaaaGreat
