/-
  What is proved: what 'bandsOf' of package region hands back of a row of rectangles. plain facts on how the merge of two regions goes on, height by height; and the bands of a region's rectangles; no Go in sight. plain facts on the document's own answer for regions: numbers added to a rising row, a row of a grid gone through, and the rows put under one another; no Go in sight.
-/
import Derived.Test.YtablogiielclaaaGreatZz3
import Derived.Deep.RegionHeld3
import Derived.IntWalk
namespace Go.Proofs.YtablogiielclaaaGreat
open Go.RowKit Go.Sort

def addE (l : List Bn) (a c : Int) : List Bn :=
  match l[l.length - 1]? with
  | some t => l.set (l.length - 1) ⟨t.y0, t.y1, t.E ++ [a, c]⟩
  | none => l
theorem addE_snoc (l : List Bn) (t : Bn) (a c : Int) : addE (l ++ [t]) a c = l ++ [⟨t.y0, t.y1, t.E ++ [a, c]⟩] := by
  unfold addE; simp
/-- The bands of the first k of a row of rectangles. -/
def bndL (L : List Rc) : Nat → List Bn
  | 0 => []
  | k + 1 => match L[k]? with
    | none => bndL L k
    | some r => if k = 0 ∨ (L[k - 1]?).map (·.b) ≠ some r.b then bndL L k ++ [⟨r.b, r.d, [r.a, r.c]⟩] else addE (bndL L k) r.a r.c
theorem addE_len (l : List Bn) (a c : Int) : (addE l a c).length = l.length := by
  unfold addE; split <;> simp
theorem bndL_new {L : List Rc} {k : Nat} {r : Rc} (hr : L[k]? = some r) (hc : k = 0 ∨ (L[k - 1]?).map (·.b) ≠ some r.b) : bndL L (k + 1) = bndL L k ++ [⟨r.b, r.d, [r.a, r.c]⟩] := by
  show (match L[k]? with | none => _ | some r => _) = _
  rw [hr]
  exact if_pos hc
theorem bndL_add {L : List Rc} {k : Nat} {r : Rc} (hr : L[k]? = some r) (hc : ¬ (k = 0 ∨ (L[k - 1]?).map (·.b) ≠ some r.b)) : bndL L (k + 1) = addE (bndL L k) r.a r.c := by
  show (match L[k]? with | none => _ | some r => _) = _
  rw [hr]
  exact if_neg hc
theorem bndL_len (L : List Rc) : ∀ k, (bndL L k).length ≤ k
  | 0 => by simp [bndL]
  | k + 1 => by
    have := bndL_len L k
    unfold bndL
    split
    · omega
    · split
      · simp; omega
      · rw [addE_len]; omega
theorem bndL_pos (L : List Rc) : ∀ k, 0 < k → k ≤ L.length → 0 < (bndL L k).length
  | 0, h, _ => by omega
  | k + 1, _, hk => by
    unfold bndL
    obtain ⟨r, hr⟩ := list_at (show k < L.length by omega)
    rw [hr]
    by_cases h : k = 0 ∨ (L[k - 1]?).map (·.b) ≠ some r.b
    · simp only [if_pos h]; simp
    · simp only [if_neg h]; rw [addE_len]; exact bndL_pos L k (by omega) (by omega)

/-- The rows of edges of bands lie in blocks of their own. -/
def Dst (bs : List BW) : Prop := bs.Pairwise fun r s => r.A = none ∨ r.A.map (·.block) ≠ s.A.map (·.block)
structure Bnds (w : World) (B : Nat) (A : Option Addr) (c : Nat) (bs : List BW) (N : Nat) : Prop where
  own : OwBs w B A c bs
  dst : Dst bs
  len : ∀ r ∈ bs, r.E.length ≤ 2 * N
theorem Bnds.nil (w : World) (B : Nat) : Bnds w B none 0 [] 0 := ⟨⟨OwB.nil _ _, by simp⟩, List.Pairwise.nil, by simp⟩
theorem Bnds.bl {w w' : World} {B N : Nat} {A : Option Addr} {c : Nat} {bs : List BW} (h : Bnds w B A c bs N) (g : Bl w w') : Bnds w' B A c bs N := ⟨h.own.bl g, h.dst, h.len⟩
theorem Bnds.more {w w2 w' : World} {B N : Nat} {A A2 : Option Addr} {c c2 : Nat} {bs : List BW} (h : Bnds w B A c bs N) (G : Bl w w2) (y0 y1 : Int) (own2 : OwB w' B A2 c2 (bs.map BW.bv ++ [⟨y0, y1, .slice none 0 0⟩])) (ap2 : Apd w2 w' A A2) (hB : B ≤ w.heap.size) :
    Bnds w' B A2 c2 (bs ++ [⟨y0, y1, [], none, 0⟩]) N ∧ Below B w w' := by
  obtain ⟨q1, q2⟩ := OwBs.app (l := bs) (b := ⟨y0, y1, [], none, 0⟩) G (h.own.bl G) (OwI.nil _ _) own2 ap2 hB
  refine ⟨⟨q1, List.pairwise_append.2 ⟨h.dst, by simp, fun r hr s hs => ?_⟩, fun r hr => ?_⟩, q2⟩
  · rw [List.mem_singleton] at hs
    subst hs
    cases hA : r.A with
    | none => exact .inl rfl
    | some a => exact .inr (by simp)
  · rw [List.mem_append, List.mem_singleton] at hr
    rcases hr with hr | rfl
    · exact h.len r hr
    · simp
/-- Edges are added to the last band, and stored. -/
theorem Bnds.edges {w w2 : World} {B N g : Nat} {c c3 : Nat} {A3 : Option Addr} {bs : List BW} {t : BW} (h : Bnds w B (some ⟨g, 0, none⟩) c (bs ++ [t]) N) (x y : Int) (own2 : OwI w2 B A3 c3 (t.E ++ [x, y])) (ap2 : Apd w w2 t.A A3) (hB : B ≤ w.heap.size) (hN : t.E.length ≤ 2 * N) :
    Bnds (w2.setCell ⟨g, bs.length * 3 + 2, none⟩ (.slice A3 (t.E.length + 2) c3)) B (some ⟨g, 0, none⟩) c (bs ++ [⟨t.y0, t.y1, t.E ++ [x, y], A3, c3⟩]) (N + 1) ∧ Below B w (w2.setCell ⟨g, bs.length * 3 + 2, none⟩ (.slice A3 (t.E.length + 2) c3)) := by
  have tOwn := h.own.2 t (by simp)
  have oB := h.own.1
  have ne : (some g) ≠ t.A.map (·.block) := by
    rcases tOwn.addr with ⟨h1, _⟩ | ⟨g', h1, _⟩
    · rw [h1]; simp
    · rw [h1]; rw [h1] at tOwn; intro he; simp at he; exact own_ne oB tOwn he
  have oB2 : OwB w2 B (some ⟨g, 0, none⟩) c ((bs ++ [t]).map BW.bv) := oB.grown ap2.1 (.inr ne)
  have st := World.ownsRow.stored (j := bs.length * 3 + 2) (u := .slice A3 (t.E.length + 2) c3) oB2
  have hkt : ((bs ++ [t]).map BW.bv)[bs.length]? = some t.bv := by simp
  have hset := cB_set ((bs ++ [t]).map BW.bv) bs.length t.bv (BV.mk t.y0 t.y1 (.slice A3 (t.E.length + 2) c3)) 2 (.slice A3 (t.E.length + 2) c3) hkt (by omega) rfl
  have far : ∀ r ∈ bs, OwI w2 B r.A r.c r.E := fun r hr => by
    refine (h.own.2 r (by simp [hr])).grown ap2.1 ?_
    have := (List.pairwise_append.1 h.dst).2.2 r hr t (by simp)
    exact this
  have farB : ∀ (A : Option Addr) (c' : Nat) (E : List Int), OwI w2 B A c' E → OwI (w2.setCell ⟨g, bs.length * 3 + 2, none⟩ (.slice A3 (t.E.length + 2) c3)) B A c' E := fun A c' E ho => ho.far oB2 st.2
  refine ⟨⟨⟨?_, fun r hr => ?_⟩, ?_, fun r hr => ?_⟩, ?_⟩
  · have hm : (bs ++ [⟨t.y0, t.y1, t.E ++ [x, y], A3, c3⟩] : List BW).map BW.bv = ((bs ++ [t]).map BW.bv).set bs.length (BV.mk t.y0 t.y1 (.slice A3 (t.E.length + 2) c3)) := by simp [BW.bv]
    unfold OwB
    rw [hm, hset, List.length_set]
    exact st.1
  · rw [List.mem_append, List.mem_singleton] at hr
    rcases hr with hr | rfl
    · exact farB _ _ _ (far r hr)
    · exact farB _ _ _ own2
  · obtain ⟨d1, _, d3⟩ := List.pairwise_append.1 h.dst
    refine List.pairwise_append.2 ⟨d1, by simp, fun r hr s hs => ?_⟩
    rw [List.mem_singleton] at hs
    subst hs
    have := d3 r hr t (by simp)
    rcases this with h1 | h1
    · exact .inl h1
    · rcases ap2.2 with h2 | h2
      · right; show _ ≠ A3.map _; rw [← h2]; exact h1
      · rcases (h.own.2 r (by simp [hr])).lies with h3 | ⟨k, h3, _, h4⟩
        · exact .inl h3
        · right; show _ ≠ A3.map _; rw [h2, h3]; simp; omega
  · rw [List.mem_append, List.mem_singleton] at hr
    rcases hr with hr | rfl
    · have := h.len r (by simp [hr]); omega
    · simp; omega
  · have b1 : Below B w w2 := Below.grown (Below.refl _ _) ap2.1 hB (fun k hk => by
      rcases tOwn.lies with h1 | ⟨k', h1, h2, _⟩
      · rw [h1] at hk; cases hk
      · rw [h1] at hk; simp at hk; omega)
    refine Below.grown b1 st.2 (Nat.le_trans hB b1.size) (fun k hk => ?_)
    injection hk with hk
    rcases oB.lies with h1 | ⟨k', h1, h2, _⟩
    · cases h1
    · injection h1 with h1; injection h1 with h1; omega

theorem OwB.some_ {w : World} {B c : Nat} {A : Option Addr} {l : List BV} (h : OwB w B A c l) (hl : 0 < l.length) : ∃ g, A = some ⟨g, 0, none⟩ ∧ B ≤ g ∧ g < w.heap.size := by
  rcases h.addr with ⟨_, _, h0⟩ | h0
  · rw [h0] at hl; simp at hl
  · exact h0
theorem Bl.trans2 {a b c : World} (h : Bl a b) (k : Below a.heap.size b c) (_ : a.heap.size ≤ b.heap.size) : Bl a c := Below.trans h k

/-- What bandsOf hands back. -/
def RBn (w : World) (L : List Rc) (e : Ending) (w' : World) : Prop := ∃ (A' : Option Addr) (c' : Nat) (l : List BW), e = .returned (.slice A' l.length c') ∧ OwBs w' w.heap.size A' c' l ∧ l.map BW.bn = bndL L L.length ∧ Bl w w'
theorem OwB.ne_own {w : World} {B B' c c' g : Nat} {A : Option Addr} {l : List BV} {E : List Int} (h : OwB w B (some ⟨g, 0, none⟩) c l) (h' : OwI w B' A c' E) : some g ≠ A.map (·.block) := by
  rcases h'.addr with ⟨h1, _⟩ | ⟨g', h1, _⟩
  · rw [h1]; simp
  · rw [h1]; rw [h1] at h'; intro he; simp at he; exact own_ne h h' he

set_option maxRecDepth 100000 in
set_option maxHeartbeats 16000000 in
theorem bandsOf1 (A : Option Addr) (c : Nat) (L : List Rc) (w : World) (h : Rs w A L) (hl : L.length ≤ 1000000) :
    Calls Tryz.prog 209 #[.slice A L.length c] w (RBn w L) := by
  go_enter Tryz.func209, Tryz.ntmps209
  go_wp2
  go_loopw [3, 9] (fun v i wr => ∃ (k : Nat) (A' : Option Addr) (c' : Nat) (bs : List BW), k ≤ L.length ∧ v = .slice A' bs.length c' ∧ i = .int .i64 k ∧ Bnds wr w.heap.size A' c' bs k ∧ Hid (bs.map BW.bn = bndL L k) ∧ Bl w wr) (fun _ i _ => L.length - (intOf i).toNat)
  case atStart => exact ⟨0, none, 0, [], Nat.zero_le _, rfl, rfl, Bnds.nil _ _, Lib.hid rfl, Bl.refl _⟩
  case round =>
    obtain ⟨k, A', c', bs, hk, rfl, rfl, bn, hb, G⟩ := hrel
    have hbl : bs.length ≤ k := by have := bndL_len L k; rw [← hb.out, List.length_map] at this; exact this
    by_cases hlt : k < L.length
    · obtain ⟨⟨ra, rb, rc, rd⟩, hr⟩ := list_at hlt
      obtain ⟨b, off, rfl, hrow⟩ := h.opened (by omega)
      obtain ⟨e1, e2, e3, e4⟩ := (hrow.bl G) k _ hr
      dsimp only at e1 e2 e3 e4
      have G1 := G.alloc (.cells #[.int .i64 ra, .int .i64 rb, .int .i64 rc, .int .i64 rd] 31)
      have bn1 := bn.bl ((Bl.refl wr).alloc (.cells #[.int .i64 ra, .int .i64 rb, .int .i64 rc, .int .i64 rd] 31))
      have bx1 := At.new wr #[.int .i64 ra, .int .i64 rb, .int .i64 rc, .int .i64 rd] 31
      have szo := G.size
      have kb := bx1.cells
      rcases Nat.eq_zero_or_pos k with h0 | h0
      · subst h0
        have E2 : True := trivial
        simp only [Nat.zero_mul, Nat.add_zero] at e1 e2 e3 e4
        replace hr := Lib.hid hr
        go_wp2
        refine wp_region_quiet_grown (by kernel_rfl) (by kernel_rfl) ?_
        repeat (first | go_big_quiet_step (fail) | quiet_step (fail))
        refine wpQuiet_nil ?_
        intro W2 g8
        replace g8 : Gr _ W2 := g8
        have bx2 := bx1.gr g8
        have bn2 := bn1.bl g8.bl
        have G2 := G1.gr g8
        clear g8 kb E2
        have kc := bx2.cell
        have sz2 := G2.size
        have sz3 : wr.heap.size < W2.heap.size := bx2.lt
        go_wp2_with (at_builtin; refine wp_app_b rfl (.tmp 27) (.tmp 33) rfl A' c' (bs.map BW.bv) (by rw [List.length_map]; rfl) w.heap.size (bn2.own.1.bl ((Bl.refl W2).alloc (.cells #[.int .i64 rb, .int .i64 rd, .slice none 0 0] 287))) W2.heap.size ⟨rb, rd, .slice none 0 0⟩ 1 rfl (At.new W2 _ _) rfl (by rw [List.length_map]; omega) (by simp; omega) ?_; intro A2 c2 W3 own3 ap3; obtain ⟨g, rfl, hg1, hg2⟩ := own3.some_ (by simp))
        obtain ⟨bn3, bl3⟩ := bn2.more ((Bl.refl W2).alloc (.cells #[.int .i64 rb, .int .i64 rd, .slice none 0 0] 287)) rb rd own3 ap3 sz2
        have bx3 := (bx2.alloc (.cells #[.int .i64 rb, .int .i64 rd, .slice none 0 0] 287)).grown ap3.1 (OwB.ne_at bn2.own.1 bx2 (by decide))
        have G3 := G2.trans2 bl3 sz2
        have hkt : ((bs ++ [(⟨rb, rd, ([] : List Int), none, 0⟩ : BW)]).map BW.bv)[bs.length]? = some (BW.bv (⟨rb, rd, ([] : List Int), none, 0⟩ : BW)) := by simp
        obtain ⟨m1, m2, m3⟩ := bn3.own.1.row _ _ hkt
        simp only [Nat.zero_add, BW.bv] at m1 m2 m3
        have tO : OwI W3 w.heap.size none 0 ([] : List Int) := bn3.own.2 (⟨rb, rd, ([] : List Int), none, 0⟩ : BW) (by simp)
        have fz := bn3.own.1.free
        have n0 := bx3.cell 0
        have n2 := bx3.cell 2
        simp only [List.getElem?_toArray, List.getElem?_cons_zero, List.getElem?_cons_succ] at n0 n2
        have lb1 := bx3.lt
        have lb2 : g < W3.heap.size := World.block_lt_of_cell? _ _ m1
        have ne1 := OwI.ne_at tO bx3 (by decide)
        have ne2 := OwB.ne_own bn3.own.1 tO
        have hEl : ([] : List Int).length ≤ 2 * 1000000 := by have := bn3.len (⟨rb, rd, ([] : List Int), none, 0⟩ : BW) (by simp); simp only at this; omega
        go_wp2
        go_region_law (refine step_app_ii (by rfl) (.tmp 44) (.tmp 49) (by rfl) none 0 ([] : List Int) (by rfl) w.heap.size (tO.bl (((Bl.refl W3).alloc _).drew)) W3.heap.size ra rc 2 (by rfl) (At.drew (At.new W3 _ _)) (by omega) (by simp; omega) ?_; intro A4 c4 w4 own4 ap4; have oB4 := (bn3.own.1.bl (((Bl.refl W3).alloc _).drew)).grown ap4.1 (.inr ne2); have m4 := (oB4.row _ _ hkt).2.2; have fz4 := oB4.free (bs.length * 3 + 2); simp only [Nat.zero_add, BW.bv] at m4)
        all_goals
          obtain ⟨bn5, bl5⟩ := (bn3.bl (((Bl.refl W3).alloc (.cells #[.int .i64 ra, .int .i64 rc] 3)).drew)).edges ra rc own4 ap4 (by simp; omega) (bn3.len (⟨rb, rd, ([] : List Int), none, 0⟩ : BW) (by simp))
          have G5 := ((G3.alloc (.cells #[.int .i64 ra, .int .i64 rc] 3)).drew).trans2 bl5 (by simp; omega)
          clear m1 m2 m3 m4 n0 n2 fz fz4
          go_wp2
          go_roundw
          case rel => exact ⟨0 + 1, some ⟨g, 0, none⟩, c2, bs ++ [⟨rb, rd, ([] : List Int) ++ [ra, rc], A4, c4⟩], by omega, by simp, by go_num, bn5, Lib.hid (by simp only [List.map_append]; exact (by rw [bndL_new hr.out (.inl rfl), ← hb.out]; rfl)), G5⟩
          case measure => simp [intOf]; omega
      · obtain ⟨m, rfl⟩ : ∃ m, k = m + 1 := ⟨k - 1, by omega⟩
        obtain ⟨p, hp⟩ := list_at (show m < L.length by omega)
        have E0 := fun n os => ((hrow.bl ((G1.drewN n).grow os)) m p hp)
        have E2 := fun n os => (E0 n os).2.1
        clear E0
        have hz0 : ((m : Int) + 1 == 0) = false := by simp; omega
        have hw1 : IntKind.i64.wrap (m : Int) = (m : Int) := IntWalk.i64_in _ (by omega)
        have hm1 : (m : Int) < (L.length : Int) := by omega

        by_cases heq : p.b = rb
        · have q1 : (rb == p.b) = true := by simp [heq]
          have q2 : (rb != p.b) = false := by simp [heq]
          have hbp := bndL_pos L (m + 1) (by omega) (by omega)
          have hstep := bndL_add (L := L) (k := m + 1) hr (by simp [hp, heq])
          replace hstep := Lib.hid hstep
          replace heq := Lib.hid heq
          replace hr := Lib.hid hr
          replace hp := Lib.hid hp
          rw [← hb.out, List.length_map] at hbp
          rcases List.eq_nil_or_concat bs with rfl | ⟨ini, ⟨ty0, ty1, tE, tA, tc⟩, rfl⟩
          · simp at hbp
          rw [List.concat_eq_append] at *
          have hn : (ini ++ [(⟨ty0, ty1, tE, tA, tc⟩ : BW)]).length = ini.length + 1 := by simp
          rw [hn] at hbl
          rw [hn]
          clear hn
          obtain ⟨g, rfl, hg1, hg2⟩ := bn1.own.1.some_ (by simp)
          go_wp2
          refine wp_region_quiet_grown (by kernel_rfl) (by kernel_rfl) ?_
          repeat (first | go_big_quiet_step (fail) | quiet_step (fail))
          refine wpQuiet_nil ?_
          intro W2 g8
          replace g8 : Gr _ W2 := g8
          have bx3 := bx1.gr g8
          have bn3 := bn1.bl g8.bl
          have G3 := G1.gr g8
          obtain ⟨W3, hW3⟩ : ∃ W3 : World, W3 = W2 := ⟨_, rfl⟩
          subst hW3
          obtain ⟨c2, hc2⟩ : ∃ c2 : Nat, c2 = c' := ⟨_, rfl⟩
          subst hc2
          clear g8 kb E2
          have kc := bx3.cell
          have sz2 := G3.size
          go_wp2
          have hkt : ((ini ++ [(⟨ty0, ty1, tE, tA, tc⟩ : BW)]).map BW.bv)[ini.length]? = some (BW.bv (⟨ty0, ty1, tE, tA, tc⟩ : BW)) := by simp
          obtain ⟨m1, m2, m3⟩ := bn3.own.1.row _ _ hkt
          simp only [Nat.zero_add, BW.bv] at m1 m2 m3
          have tO : OwI W3 w.heap.size tA tc tE := bn3.own.2 (⟨ty0, ty1, tE, tA, tc⟩ : BW) (by simp)
          have fz := bn3.own.1.free
          have n0 := bx3.cell 0
          have n2 := bx3.cell 2
          simp only [List.getElem?_toArray, List.getElem?_cons_zero, List.getElem?_cons_succ] at n0 n2
          have lb1 := bx3.lt
          have lb2 : g < W3.heap.size := World.block_lt_of_cell? _ _ m1
          have ne1 := OwI.ne_at tO bx3 (by decide)
          have ne2 := OwB.ne_own bn3.own.1 tO
          have hEl : tE.length ≤ 2 * 1000000 := by have := bn3.len (⟨ty0, ty1, tE, tA, tc⟩ : BW) (by simp); simp only at this; omega
          go_wp2
          go_region_law (refine step_app_ii (by rfl) (.tmp 44) (.tmp 49) (by rfl) tA tc tE (by rfl) w.heap.size (tO.bl (((Bl.refl W3).alloc _).drew)) W3.heap.size ra rc 2 (by rfl) (At.drew (At.new W3 _ _)) (by omega) (by simp; omega) ?_; intro A4 c4 w4 own4 ap4; have oB4 := (bn3.own.1.bl (((Bl.refl W3).alloc _).drew)).grown ap4.1 (.inr ne2); have m4 := (oB4.row _ _ hkt).2.2; have fz4 := oB4.free (ini.length * 3 + 2); simp only [Nat.zero_add, BW.bv] at m4)
          all_goals
            obtain ⟨bn5, bl5⟩ := (bn3.bl (((Bl.refl W3).alloc (.cells #[.int .i64 ra, .int .i64 rc] 3)).drew)).edges ra rc own4 ap4 (by simp; omega) (bn3.len (⟨ty0, ty1, tE, tA, tc⟩ : BW) (by simp))
            have G5 := ((G3.alloc (.cells #[.int .i64 ra, .int .i64 rc] 3)).drew).trans2 bl5 (by simp; omega)
            clear m1 m2 m3 m4 n0 n2 fz fz4
            go_wp2
            go_roundw
            case rel => exact ⟨(m + 1) + 1, some ⟨g, 0, none⟩, c2, ini ++ [⟨ty0, ty1, tE ++ [ra, rc], A4, c4⟩], by omega, by simp, by go_num, bn5, Lib.hid (by simp only [List.map_append]; exact (by rw [hstep.out, ← hb.out, List.map_append]; show _ = addE (_ ++ [⟨ty0, ty1, tE⟩]) ra rc; rw [addE_snoc]; rfl)), G5⟩
            case measure => simp [intOf]; omega
        · have q1 : (rb == p.b) = false := by simp; exact fun h => heq h.symm
          have q2 : (rb != p.b) = true := by simp; exact fun h => heq h.symm
          have hstep := bndL_new (L := L) (k := m + 1) hr (.inr (by simp [hp, heq]))
          replace hstep := Lib.hid hstep
          replace heq := Lib.hid heq
          replace hr := Lib.hid hr
          replace hp := Lib.hid hp
          go_wp2
          refine wp_region_quiet_grown (by kernel_rfl) (by kernel_rfl) ?_
          repeat (first | go_big_quiet_step (fail) | quiet_step (fail))
          refine wpQuiet_nil ?_
          intro W2 g8
          replace g8 : Gr _ W2 := g8
          have bx2 := bx1.gr g8
          have bn2 := bn1.bl g8.bl
          have G2 := G1.gr g8
          clear g8 kb E2
          have kc := bx2.cell
          have sz2 := G2.size
          have sz3 : wr.heap.size < W2.heap.size := bx2.lt
          go_wp2_with (at_builtin; refine wp_app_b rfl (.tmp 27) (.tmp 33) rfl A' c' (bs.map BW.bv) (by rw [List.length_map]; rfl) w.heap.size (bn2.own.1.bl ((Bl.refl W2).alloc (.cells #[.int .i64 rb, .int .i64 rd, .slice none 0 0] 287))) W2.heap.size ⟨rb, rd, .slice none 0 0⟩ 1 rfl (At.new W2 _ _) rfl (by rw [List.length_map]; omega) (by simp; omega) ?_; intro A2 c2 W3 own3 ap3; obtain ⟨g, rfl, hg1, hg2⟩ := own3.some_ (by simp))
          obtain ⟨bn3, bl3⟩ := bn2.more ((Bl.refl W2).alloc (.cells #[.int .i64 rb, .int .i64 rd, .slice none 0 0] 287)) rb rd own3 ap3 sz2
          have bx3 := (bx2.alloc (.cells #[.int .i64 rb, .int .i64 rd, .slice none 0 0] 287)).grown ap3.1 (OwB.ne_at bn2.own.1 bx2 (by decide))
          have G3 := G2.trans2 bl3 sz2
          have hkt : ((bs ++ [(⟨rb, rd, ([] : List Int), none, 0⟩ : BW)]).map BW.bv)[bs.length]? = some (BW.bv (⟨rb, rd, ([] : List Int), none, 0⟩ : BW)) := by simp
          obtain ⟨m1, m2, m3⟩ := bn3.own.1.row _ _ hkt
          simp only [Nat.zero_add, BW.bv] at m1 m2 m3
          have tO : OwI W3 w.heap.size none 0 ([] : List Int) := bn3.own.2 (⟨rb, rd, ([] : List Int), none, 0⟩ : BW) (by simp)
          have fz := bn3.own.1.free
          have n0 := bx3.cell 0
          have n2 := bx3.cell 2
          simp only [List.getElem?_toArray, List.getElem?_cons_zero, List.getElem?_cons_succ] at n0 n2
          have lb1 := bx3.lt
          have lb2 : g < W3.heap.size := World.block_lt_of_cell? _ _ m1
          have ne1 := OwI.ne_at tO bx3 (by decide)
          have ne2 := OwB.ne_own bn3.own.1 tO
          have hEl : ([] : List Int).length ≤ 2 * 1000000 := by have := bn3.len (⟨rb, rd, ([] : List Int), none, 0⟩ : BW) (by simp); simp only at this; omega
          go_wp2
          go_region_law (refine step_app_ii (by rfl) (.tmp 44) (.tmp 49) (by rfl) none 0 ([] : List Int) (by rfl) w.heap.size (tO.bl (((Bl.refl W3).alloc _).drew)) W3.heap.size ra rc 2 (by rfl) (At.drew (At.new W3 _ _)) (by omega) (by simp; omega) ?_; intro A4 c4 w4 own4 ap4; have oB4 := (bn3.own.1.bl (((Bl.refl W3).alloc _).drew)).grown ap4.1 (.inr ne2); have m4 := (oB4.row _ _ hkt).2.2; have fz4 := oB4.free (bs.length * 3 + 2); simp only [Nat.zero_add, BW.bv] at m4)
          all_goals
            obtain ⟨bn5, bl5⟩ := (bn3.bl (((Bl.refl W3).alloc (.cells #[.int .i64 ra, .int .i64 rc] 3)).drew)).edges ra rc own4 ap4 (by simp; omega) (bn3.len (⟨rb, rd, ([] : List Int), none, 0⟩ : BW) (by simp))
            have G5 := ((G3.alloc (.cells #[.int .i64 ra, .int .i64 rc] 3)).drew).trans2 bl5 (by simp; omega)
            clear m1 m2 m3 m4 n0 n2 fz fz4
            go_wp2
            go_roundw
            case rel => exact ⟨(m + 1) + 1, some ⟨g, 0, none⟩, c2, bs ++ [⟨rb, rd, ([] : List Int) ++ [ra, rc], A4, c4⟩], by omega, by simp, by go_num, bn5, Lib.hid (by simp only [List.map_append]; exact (by rw [hstep.out, ← hb.out]; rfl)), G5⟩
            case measure => simp [intOf]; omega
    · obtain rfl : k = L.length := by omega
      go_wp2
      go_ret
      exact ⟨A', c', bs, rfl, bn.own, hb.out, G⟩

end Go.Proofs.YtablogiielclaaaGreat
namespace Go.Proofs.YtablogiielclaaaGreat

theorem fromL_rows (y0 : Int) : ∀ (p : List Bn) (y : Int), y0 ≤ y → rowE (fromL y0 p) y = rowE p y
  | [], y, _ => rfl
  | b :: l, y, h => by
    unfold fromL
    by_cases hb : b.y1 ≤ y0
    · rw [if_pos hb, fromL_rows y0 l y h]
      show _ = if b.y0 ≤ y ∧ y < b.y1 then b.E else rowE l y
      rw [if_neg (by omega)]
    · rw [if_neg hb]
theorem fromL_sub (y0 : Int) : ∀ (p : List Bn), (fromL y0 p).Sublist p
  | [] => List.Sublist.refl _
  | b :: l => by
    unfold fromL
    by_cases hb : b.y1 ≤ y0
    · rw [if_pos hb]; exact (fromL_sub y0 l).cons b
    · rw [if_neg hb]; exact List.Sublist.refl _
theorem fromL_head {y0 : Int} : ∀ {p : List Bn} {b : Bn} {l : List Bn}, fromL y0 p = b :: l → y0 < b.y1
  | [], b, l, h => by cases h
  | c :: p, b, l, h => by
    unfold fromL at h
    by_cases hb : c.y1 ≤ y0
    · rw [if_pos hb] at h; exact fromL_head h
    · rw [if_neg hb] at h; injection h with h1 h2; subst h1; omega
theorem Wk.sub {B C : List Bn} (h : Wk B) (hs : C.Sublist B) : Wk C := ⟨fun b hb => h.ok b (hs.mem hb), h.seq.sublist hs⟩

theorem inc_next {ys : List Int} (h : Inc ys) {i : Nat} {y0 y1 z : Int} (h0 : ys[i]? = some y0) (h1 : ys[i + 1]? = some y1) (hz : z ∈ ys) (hlt : y0 < z) : y1 ≤ z := by
  rw [List.mem_iff_getElem] at hz
  obtain ⟨k, hk, rfl⟩ := hz
  have g0 := get_lt h0
  have g1 := get_lt h1
  rw [List.getElem?_eq_getElem g0] at h0
  rw [List.getElem?_eq_getElem g1] at h1
  injection h0 with h0
  injection h1 with h1
  have hp := List.pairwise_iff_getElem.1 h
  rcases Nat.lt_trichotomy k (i + 1) with h2 | h2 | h2
  · rcases Nat.lt_or_ge k i with h3 | h3
    · have := hp k i hk g0 h3; omega
    · have : k = i := by omega
      subst this; omega
  · subst h2; omega
  · have := hp (i + 1) k g1 hk h2; omega
theorem inc_first {ys : List Int} (h : Inc ys) {y0 z : Int} (h0 : ys[0]? = some y0) (hz : z ∈ ys) : y0 ≤ z := by
  have := inc_head_le h h0 z (by simpa using hz)
  exact this
theorem inc_last {ys : List Int} (h : Inc ys) {i : Nat} {y0 z : Int} (h0 : ys[i]? = some y0) (hi : i + 1 = ys.length) (hz : z ∈ ys) : z ≤ y0 := by
  rw [List.mem_iff_getElem] at hz
  obtain ⟨k, hk, rfl⟩ := hz
  have g0 := get_lt h0
  rw [List.getElem?_eq_getElem g0] at h0
  injection h0 with h0
  rcases Nat.lt_or_ge k i with h3 | h3
  · have := List.pairwise_iff_getElem.1 h k i hk g0 h3; omega
  · have : k = i := by omega
    subst this; omega

/-- Edges between two heights that follow one another. -/
theorem edges_row {p : List Bn} {y0 y1 : Int} (hw : Wk p) (hend : ∀ b ∈ p, (y0 < b.y1 → y1 ≤ b.y1) ∧ (y0 < b.y0 → y1 ≤ b.y0)) {y : Int} (h0 : y0 ≤ y) (h1 : y < y1) : edgesL (fromL y0 p) y0 = rowE (fromL y0 p) y := by
  have hs := fromL_sub y0 p
  cases hf : fromL y0 p with
  | nil => rfl
  | cons b l =>
    have hb := fromL_head hf
    rw [hf] at hs
    obtain ⟨e1, e2⟩ := hend b (hs.mem (by simp))
    have hw' := hw.sub hs
    obtain ⟨q1, q2, q3⟩ := hw'.cons
    show (if y0 < b.y0 then [] else b.E) = _
    by_cases hlt : y0 < b.y0
    · rw [if_pos hlt, rowE_none]
      intro c hc
      rw [List.mem_cons] at hc
      have := e2 hlt
      rcases hc with rfl | hc
      · left; omega
      · have := (q2 c hc).1; have := q1.1; left; omega
    · rw [if_neg hlt]
      show _ = if b.y0 ≤ y ∧ y < b.y1 then b.E else rowE l y
      have := e1 hb
      rw [if_pos (by omega)]
theorem edgesL_ok {p : List Bn} {y : Int} (hw : Wk p) : Inc (edgesL p y) ∧ (edgesL p y).length % 2 = 0 := by
  cases p with
  | nil => exact ⟨List.Pairwise.nil, rfl⟩
  | cons b l =>
    show Inc (if y < b.y0 then [] else b.E) ∧ (if y < b.y0 then [] else b.E).length % 2 = 0
    split
    · exact ⟨List.Pairwise.nil, rfl⟩
    · exact (hw.ok b (by simp)).2
theorem edgesL_mem {p : List Bn} {y : Int} : edgesL p y = [] ∨ ∃ b ∈ p, edgesL p y = b.E := by
  cases p with
  | nil => exact .inl rfl
  | cons b l =>
    show (if y < b.y0 then [] else b.E) = [] ∨ ∃ c ∈ b :: l, (if y < b.y0 then [] else b.E) = c.E
    split
    · exact .inl rfl
    · exact .inr ⟨b, by simp, rfl⟩

/-- How far a merge of two regions has come. -/
structure MInv (p q : List Bn) (kp : Bool → Bool → Bool) (ys : List Int) (i : Nat) (O p' q' : List Bn) : Prop where
  i1 : 1 ≤ i
  wk : Wk O
  top : ∀ y0, ys[i - 1]? = some y0 → ∀ c ∈ O, c.y1 ≤ y0
  len : O.length ≤ i - 1
  par : ∀ y0, ys[i - 1]? = some y0 → ∀ y, y < y0 → ∀ x, inE (rowE O y) x = kp (inE (rowE p y) x) (inE (rowE q y) x)
  sp : p'.Sublist p
  sq : q'.Sublist q
  rp : ∀ y0, ys[i - 1]? = some y0 → ∀ y, y0 ≤ y → rowE p' y = rowE p y
  rq : ∀ y0, ys[i - 1]? = some y0 → ∀ y, y0 ≤ y → rowE q' y = rowE q y
  ed : ∀ c ∈ O, (∀ e ∈ c.E, ∃ b, (b ∈ p ∨ b ∈ q) ∧ e ∈ b.E) ∧ c.y0 ∈ ys ∧ c.y1 ∈ ys
  el : ∀ c ∈ O, c.E.length ≤ 2000000
theorem MInv.start {p q : List Bn} {kp : Bool → Bool → Bool} {ys : List Int} (hy : Hts p q ys) (hk : kp false false = false) (_hp : Wk p) (_hq : Wk q) : MInv p q kp ys 1 [] p q where
  i1 := Nat.le_refl _
  wk := Wk.nil
  top := by simp
  len := by simp
  par := fun y0 h0 y hlt x => by
    rw [rowE_none (B := p) (fun b hb => by have := inc_first hy.inc h0 ((hy.mem b.y0).2 ⟨b, .inl hb, .inl rfl⟩); left; omega),
      rowE_none (B := q) (fun b hb => by have := inc_first hy.inc h0 ((hy.mem b.y0).2 ⟨b, .inr hb, .inl rfl⟩); left; omega)]
    simp [rowE, inE_nil, hk]
  sp := List.Sublist.refl _
  sq := List.Sublist.refl _
  rp := fun _ _ _ _ => rfl
  rq := fun _ _ _ _ => rfl
  ed := by simp
  el := by simp
theorem MInv.step {p q : List Bn} {kp : Bool → Bool → Bool} {ys : List Int} {i : Nat} {O p' q' : List Bn} (h : MInv p q kp ys i O p' q') (hy : Hts p q ys) (hp : Wk p) (hq : Wk q) {y0 y1 : Int} (h0 : ys[i - 1]? = some y0) (h1 : ys[i]? = some y1)
    (hlp : ∀ b ∈ p, b.E.length ≤ 1000000) (hlq : ∀ b ∈ q, b.E.length ≤ 1000000)
    {e : List Int} (he : Mrg (edgesL (fromL y0 p') y0) (edgesL (fromL y0 q') y0) kp e) : MInv p q kp ys (i + 1) (addL O ⟨y0, y1, e⟩) (fromL y0 p') (fromL y0 q') := by
  have hi := h.i1
  have hlt : y0 < y1 := by
    have g0 := get_lt h0
    have g1 := get_lt h1
    rw [List.getElem?_eq_getElem g0] at h0
    rw [List.getElem?_eq_getElem g1] at h1
    injection h0 with h0
    injection h1 with h1
    have := List.pairwise_iff_getElem.1 hy.inc (i - 1) i g0 g1 (by omega)
    omega
  have nx : ∀ z ∈ ys, y0 < z → y1 ≤ z := fun z hz hl => inc_next hy.inc (i := i - 1) h0 (by rw [show i - 1 + 1 = i from by omega]; exact h1) hz hl
  have hpe : ∀ b ∈ p', (y0 < b.y1 → y1 ≤ b.y1) ∧ (y0 < b.y0 → y1 ≤ b.y0) := fun b hb => ⟨nx _ ((hy.mem _).2 ⟨b, .inl (h.sp.mem hb), .inr rfl⟩), nx _ ((hy.mem _).2 ⟨b, .inl (h.sp.mem hb), .inl rfl⟩)⟩
  have hqe : ∀ b ∈ q', (y0 < b.y1 → y1 ≤ b.y1) ∧ (y0 < b.y0 → y1 ≤ b.y0) := fun b hb => ⟨nx _ ((hy.mem _).2 ⟨b, .inr (h.sq.mem hb), .inr rfl⟩), nx _ ((hy.mem _).2 ⟨b, .inr (h.sq.mem hb), .inl rfl⟩)⟩
  have hwp := hp.sub h.sp
  have hwq := hq.sub h.sq
  have hbok : (⟨y0, y1, e⟩ : Bn).ok := ⟨hlt, he.inc, he.even⟩
  obtain ⟨a1, a2, a3, a4, a5⟩ := addL_wk h.wk hbok (h.top y0 h0)
  have rpf : ∀ y, y0 ≤ y → rowE (fromL y0 p') y = rowE p y := fun y hy' => by rw [fromL_rows y0 p' y hy', h.rp y0 h0 y hy']
  have rqf : ∀ y, y0 ≤ y → rowE (fromL y0 q') y = rowE q y := fun y hy' => by rw [fromL_rows y0 q' y hy', h.rq y0 h0 y hy']
  refine ⟨by omega, a1, ?_, ?_, ?_, (fromL_sub y0 p').trans h.sp, (fromL_sub y0 q').trans h.sq, ?_, ?_, ?_, ?_⟩
  · intro z hz c hc
    rw [Nat.add_sub_cancel, h1] at hz
    injection hz with hz
    subst hz
    exact a3 c hc
  · have := h.len; omega
  · intro z hz y hyz x
    rw [Nat.add_sub_cancel, h1] at hz
    injection hz with hz
    subst hz
    rw [a2]
    by_cases hy0 : y0 ≤ y
    · rw [if_pos ⟨hy0, hyz⟩]
      show inE e x = _
      rw [he.par x, edges_row hwp hpe hy0 hyz, edges_row hwq hqe hy0 hyz, rpf y hy0, rqf y hy0]
    · rw [if_neg (by show ¬ (y0 ≤ y ∧ y < y1); omega)]
      exact h.par y0 h0 y (by omega) x
  · intro z hz y hyz
    rw [Nat.add_sub_cancel, h1] at hz
    injection hz with hz
    subst hz
    exact rpf y (by omega)
  · intro z hz y hyz
    rw [Nat.add_sub_cancel, h1] at hz
    injection hz with hz
    subst hz
    exact rqf y (by omega)
  · intro c hc
    obtain ⟨b1, b2, b3⟩ := a5 c hc
    refine ⟨fun x hx => ?_, ?_, ?_⟩
    · rcases b1 with b1 | ⟨d, hd, b1⟩
      · rw [b1] at hx
        rcases he.sub x hx with h2 | h2
        · rcases edgesL_mem (p := fromL y0 p') (y := y0) with h3 | ⟨b, h3, h4⟩
          · rw [h3] at h2; simp at h2
          · rw [h4] at h2; exact ⟨b, .inl (h.sp.mem ((fromL_sub y0 p').mem h3)), h2⟩
        · rcases edgesL_mem (p := fromL y0 q') (y := y0) with h3 | ⟨b, h3, h4⟩
          · rw [h3] at h2; simp at h2
          · rw [h4] at h2; exact ⟨b, .inr (h.sq.mem ((fromL_sub y0 q').mem h3)), h2⟩
      · rw [b1] at hx; exact (h.ed d hd).1 x hx
    · rcases b2 with b2 | ⟨d, hd, b2⟩
      · rw [b2]; exact get_mem h0
      · rw [b2]; exact (h.ed d hd).2.1
    · rcases b3 with b3 | ⟨d, hd, b3⟩
      · rw [b3]; exact get_mem h1
      · rw [b3]; exact (h.ed d hd).2.2
  · intro c hc
    obtain ⟨b1, _⟩ := a5 c hc
    rcases b1 with b1 | ⟨d, hd, b1⟩
    · rw [b1]
      refine Nat.le_trans he.len ?_
      have l1 : (edgesL (fromL y0 p') y0).length ≤ 1000000 := by
        rcases edgesL_mem (p := fromL y0 p') (y := y0) with h3 | ⟨b, h3, h4⟩
        · rw [h3]; simp
        · rw [h4]; exact hlp b (h.sp.mem ((fromL_sub y0 p').mem h3))
      have l2 : (edgesL (fromL y0 q') y0).length ≤ 1000000 := by
        rcases edgesL_mem (p := fromL y0 q') (y := y0) with h3 | ⟨b, h3, h4⟩
        · rw [h3]; simp
        · rw [h4]; exact hlq b (h.sq.mem ((fromL_sub y0 q').mem h3))
      omega
    · rw [b1]; exact h.el d hd
/-- Behind the last height. -/
theorem MInv.done {p q : List Bn} {kp : Bool → Bool → Bool} {ys : List Int} {i : Nat} {O p' q' : List Bn} (h : MInv p q kp ys i O p' q') (hy : Hts p q ys) (hk : kp false false = false) (hi : ys.length ≤ i) (hi2 : i ≤ ys.length ∨ i = 1) :
    ∀ y x, inE (rowE O y) x = kp (inE (rowE p y) x) (inE (rowE q y) x) := by
  intro y x
  have h1 := h.i1
  by_cases h0 : ys.length = 0
  · have hn : ys = [] := List.eq_nil_of_length_eq_zero h0
    have hp0 : p = [] := by
      cases p with
      | nil => rfl
      | cons b l => have := (hy.mem b.y0).2 ⟨b, .inl (by simp), .inl rfl⟩; rw [hn] at this; simp at this
    have hq0 : q = [] := by
      cases q with
      | nil => rfl
      | cons b l => have := (hy.mem b.y0).2 ⟨b, .inr (by simp), .inl rfl⟩; rw [hn] at this; simp at this
    have hO : O = [] := by
      cases O with
      | nil => rfl
      | cons b l => have := (h.ed b (by simp)).2.1; rw [hn] at this; simp at this
    subst hp0 hq0 hO
    simp [rowE, inE_nil, hk]
  · have hii : i = ys.length := by omega
    obtain ⟨y0, hy0⟩ := list_at (show i - 1 < ys.length by omega)
    by_cases hlt : y < y0
    · exact h.par y0 hy0 y hlt x
    · have last : ∀ z ∈ ys, z ≤ y0 := fun z hz => inc_last hy.inc hy0 (by omega) hz
      rw [rowE_none (B := O) (fun c hc => by have := h.top y0 hy0 c hc; right; omega),
        rowE_none (B := p) (fun b hb => by have := last b.y1 ((hy.mem _).2 ⟨b, .inl hb, .inr rfl⟩); right; omega),
        rowE_none (B := q) (fun b hb => by have := last b.y1 ((hy.mem _).2 ⟨b, .inr hb, .inr rfl⟩); right; omega)]
      simp [inE_nil, hk]

/-- How many rectangles there may be, where all numbers are of two short lists. -/
theorem inc_len : ∀ (l Y : List Int), Inc l → (∀ e ∈ l, e ∈ Y) → l.length ≤ Y.length
  | [], Y, _, _ => Nat.zero_le _
  | a :: l, Y, h, hs => by
    obtain ⟨h1, h2⟩ := List.pairwise_cons.1 h
    have ha := hs a (by simp)
    have := inc_len l (Y.erase a) h2 fun e he => by
      have := h1 e he
      exact (List.mem_erase_of_ne (by omega)).2 (hs e (by simp [he]))
    rw [List.length_erase_of_mem ha] at this
    have hpos : 0 < Y.length := List.length_pos_of_mem ha
    simp; omega
def InB (X Y : List Int) (B : List Bn) : Prop := ∀ b ∈ B, b.y0 ∈ Y ∧ b.y1 ∈ Y ∧ ∀ e ∈ b.E, e ∈ X
def InR (X Y : List Int) (L : List Rc) : Prop := ∀ r ∈ L, r.a ∈ X ∧ r.c ∈ X ∧ r.b ∈ Y ∧ r.d ∈ Y
theorem bands_len {B : List Bn} (h : Wk B) {X Y : List Int} (hi : InB X Y B) : B.length ≤ Y.length := by
  have : Inc (B.map (·.y0)) := by
    unfold Inc
    rw [List.pairwise_map]
    refine List.Pairwise.imp_of_mem (R := Seq) (fun {b c} hb hc hs => ?_) h.seq
    have := (h.ok b hb).1
    have := hs.1
    omega
  have := inc_len _ Y this (fun e he => by
    rw [List.mem_map] at he
    obtain ⟨b, hb, rfl⟩ := he
    exact (hi b hb).1)
  simpa using this
theorem rects_len_le : ∀ (B : List Bn) (N : Nat), (∀ b ∈ B, b.E.length ≤ N) → (rectsL B).length ≤ B.length * N
  | [], N, _ => Nat.zero_le _
  | b :: l, N, h => by
    have ih := rects_len_le l N fun c hc => h c (by simp [hc])
    have := h b (by simp)
    show (bandE b.y0 b.y1 b.E ++ rectsL l).length ≤ (l.length + 1) * N
    rw [List.length_append, bandE_len, Nat.add_mul]
    omega
theorem rects_len {B : List Bn} (h : Wk B) {X Y : List Int} (hi : InB X Y B) : (rectsL B).length ≤ Y.length * X.length :=
  Nat.le_trans (rects_len_le B X.length fun b hb => inc_len _ _ (h.ok b hb).2.1 (hi b hb).2.2) (Nat.mul_le_mul_right _ (bands_len h hi))
theorem bandE_mem (y0 y1 : Int) : ∀ (E : List Int) (r : Rc), r ∈ bandE y0 y1 E → r.b = y0 ∧ r.d = y1 ∧ r.a ∈ E ∧ r.c ∈ E
  | [], r, h => by simp [bandE] at h
  | [x], r, h => by simp [bandE] at h
  | x :: z :: E, r, h => by
    unfold bandE at h
    rw [List.mem_cons] at h
    rcases h with rfl | h
    · exact ⟨rfl, rfl, by simp, by simp⟩
    · obtain ⟨h1, h2, h3, h4⟩ := bandE_mem y0 y1 E r h
      exact ⟨h1, h2, by simp [h3], by simp [h4]⟩
theorem bandE_has (y0 y1 : Int) : ∀ (E : List Int) (e : Int), E.length % 2 = 0 → e ∈ E → ∃ r ∈ bandE y0 y1 E, r.a = e ∨ r.c = e
  | [], e, _, h => by simp at h
  | [x], e, h, _ => by simp at h
  | x :: z :: E, e, hl, h => by
    rw [List.mem_cons, List.mem_cons] at h
    rcases h with rfl | rfl | h
    · exact ⟨⟨e, y0, z, y1⟩, by simp [bandE], .inl rfl⟩
    · exact ⟨⟨x, y0, e, y1⟩, by simp [bandE], .inr rfl⟩
    · obtain ⟨r, h1, h2⟩ := bandE_has y0 y1 E e (by simp at hl; omega) h
      exact ⟨r, by simp [bandE, h1], h2⟩
theorem rects_mem : ∀ (B : List Bn) (r : Rc), r ∈ rectsL B ↔ ∃ b ∈ B, r ∈ bandE b.y0 b.y1 b.E
  | [], r => by simp [rectsL]
  | b :: l, r => by
    show r ∈ bandE b.y0 b.y1 b.E ++ rectsL l ↔ _
    rw [List.mem_append, rects_mem l r]
    constructor
    · rintro (h | ⟨c, h1, h2⟩)
      · exact ⟨b, by simp, h⟩
      · exact ⟨c, by simp [h1], h2⟩
    · rintro ⟨c, h1, h2⟩
      rw [List.mem_cons] at h1
      rcases h1 with rfl | h1
      · exact .inl h2
      · exact .inr ⟨c, h1, h2⟩
theorem InB.rects {X Y : List Int} {B : List Bn} (h : InB X Y B) : InR X Y (rectsL B) := fun r hr => by
  obtain ⟨b, h1, h2⟩ := (rects_mem B r).1 hr
  obtain ⟨q1, q2, q3, q4⟩ := bandE_mem _ _ _ _ h2
  obtain ⟨p1, p2, p3⟩ := h b h1
  exact ⟨p3 _ q3, p3 _ q4, by rw [q1]; exact p1, by rw [q2]; exact p2⟩
theorem InR.bands {X Y : List Int} {B : List Bn} (hB : Gd B) (h : InR X Y (rectsL B)) : InB X Y B := fun b hb => by
  have hok := hB.ok b hb
  have all : ∀ e ∈ b.E, e ∈ X ∧ b.y0 ∈ Y ∧ b.y1 ∈ Y := fun e he => by
    obtain ⟨r, h1, h2⟩ := bandE_has b.y0 b.y1 b.E e hok.2.2 he
    obtain ⟨q1, q2, _, _⟩ := bandE_mem _ _ _ _ h1
    obtain ⟨p1, p2, p3, p4⟩ := h r ((rects_mem B r).2 ⟨b, hb, h1⟩)
    refine ⟨?_, by rw [← q1]; exact p3, by rw [← q2]; exact p4⟩
    rcases h2 with h2 | h2
    · rw [← h2]; exact p1
    · rw [← h2]; exact p2
  cases hE : b.E with
  | nil => exact absurd hE (hB.full b hb)
  | cons e E =>
    obtain ⟨q1, q2, q3⟩ := all e (by rw [hE]; simp)
    exact ⟨q2, q3, fun e' he' => (all e' (by rw [hE]; exact he')).1⟩

/-- The bands of a region's rectangles are those that it was made of. -/
theorem bndL_prefix (L M : List Rc) : ∀ k, k ≤ L.length → bndL (L ++ M) k = bndL L k
  | 0, _ => rfl
  | k + 1, h => by
    have ih := bndL_prefix L M k (by omega)
    show (match (L ++ M)[k]? with | none => _ | some r => _) = (match L[k]? with | none => _ | some r => _)
    rw [List.getElem?_append_left (by omega), ih]
    obtain ⟨r, hr⟩ := list_at (show k < L.length by omega)
    rw [hr]
    simp only
    rw [List.getElem?_append_left (by omega)]
theorem bndL_band (L : List Rc) (y0 y1 : Int) (E : List Int) (hE : E.length % 2 = 0) (hne : ∀ r, L[L.length - 1]? = some r → r.b ≠ y0) : ∀ j, 1 ≤ j → 2 * j ≤ E.length →
    bndL (L ++ bandE y0 y1 E) (L.length + j) = bndL L L.length ++ [⟨y0, y1, E.take (2 * j)⟩]
  | 0, h, _ => by omega
  | j + 1, _, hj => by
    obtain ⟨xa, ha⟩ := list_at (show 2 * j < E.length by omega)
    obtain ⟨xb, hb⟩ := list_at (show 2 * j + 1 < E.length by omega)
    have hg := bandE_get y0 y1 E j xa xb ha hb
    have hr : (L ++ bandE y0 y1 E)[L.length + j]? = some ⟨xa, y0, xb, y1⟩ := by
      rw [List.getElem?_append_right (by omega), show L.length + j - L.length = j from by omega]; exact hg
    have ht : E.take (2 * (j + 1)) = E.take (2 * j) ++ [xa, xb] := by
      rw [show 2 * (j + 1) = 2 * j + 1 + 1 from by omega, take_more hb, take_more ha]; simp
    rw [ht, show L.length + (j + 1) = (L.length + j) + 1 from by omega]
    rcases Nat.eq_zero_or_pos j with h0 | h0
    · subst h0
      rw [bndL_new hr ?_, Nat.add_zero, bndL_prefix L _ L.length (Nat.le_refl _)]
      · simp
      · rcases Nat.eq_zero_or_pos L.length with h1 | h1
        · left; omega
        · right
          rw [List.getElem?_append_left (by omega)]
          obtain ⟨r, hr'⟩ := list_at (show L.length + 0 - 1 < L.length by omega)
          rw [hr']
          have := hne r (by simpa using hr')
          simpa using this
    · have ih := bndL_band L y0 y1 E hE hne j h0 (by omega)
      rw [bndL_add hr ?_, ih, addE_snoc]
      · rw [not_or]
        refine ⟨by omega, ?_⟩
        obtain ⟨xc, hc⟩ := list_at (show 2 * (j - 1) < E.length by omega)
        obtain ⟨xd, hd⟩ := list_at (show 2 * (j - 1) + 1 < E.length by omega)
        have hg' := bandE_get y0 y1 E (j - 1) xc xd hc hd
        rw [List.getElem?_append_right (by omega), show L.length + j - 1 - L.length = j - 1 from by omega, hg']
        simp
theorem bndL_rects : ∀ (n : Nat) (B : List Bn), B.length = n → Gd B → bndL (rectsL B) (rectsL B).length = B
  | 0, B, hn, _ => by
    have : B = [] := List.eq_nil_of_length_eq_zero hn
    subst this; rfl
  | n + 1, B, hn, hB => by
    rcases List.eq_nil_or_concat B with rfl | ⟨l, t, rfl⟩
    · simp at hn
    rw [List.concat_eq_append] at *
    have hl : Gd l := ⟨⟨fun b hb => hB.ok b (by simp [hb]), (List.pairwise_append.1 hB.seq).1⟩, fun b hb => hB.full b (by simp [hb])⟩
    have ih := bndL_rects n l (by simp at hn; omega) hl
    have ht := hB.ok t (by simp)
    have htf := hB.full t (by simp)
    have hev := ht.2.2
    have hlen : 0 < t.E.length := List.length_pos_iff.2 htf
    have he : rectsL (l ++ [t]) = rectsL l ++ bandE t.y0 t.y1 t.E := by
      rw [rectsL_app]; show _ = _; rw [show rectsL [t] = bandE t.y0 t.y1 t.E ++ [] from rfl, List.append_nil]
    rw [he, List.length_append, bandE_len]
    rw [bndL_band (rectsL l) t.y0 t.y1 t.E ht.2.2 ?_ (t.E.length / 2) (by omega) (by omega)]
    · rw [ih, show 2 * (t.E.length / 2) = t.E.length from by omega, List.take_length]
    · intro r hr
      obtain ⟨b, h1, h2⟩ := (rects_mem l r).1 (List.mem_of_getElem? hr)
      obtain ⟨q1, q2, _, _⟩ := bandE_mem _ _ _ _ h2
      have hs := ((List.pairwise_append.1 hB.seq).2.2 b h1 t (by simp)).1
      have := (hB.ok b (by simp [h1])).1
      omega
theorem IsReg.bands {L : List Rc} (h : IsReg L) : Gd (bndL L L.length) ∧ rectsL (bndL L L.length) = L := by
  obtain ⟨B, hB, rfl⟩ := h
  rw [bndL_rects _ B rfl hB]
  exact ⟨hB, rfl⟩

end Go.Proofs.YtablogiielclaaaGreat
namespace Go.Proofs.YtablogiielclaaaGreat

/-- A rising row with one more number. -/
structure Adds (l : List Int) (n : Int) (R : List Int) : Prop where
  inc : Inc R
  mem : ∀ x, x ∈ R ↔ x ∈ l ∨ x = n
  len : R.length ≤ l.length + 1
structure AInv (l : List Int) (n : Int) (i : Nat) (dn : Bool) (O : List Int) : Prop where
  no : ∀ x ∈ l.take i, x ≠ n
  hany : dn = (l.take i).any (fun x => decide (n < x))
  out : O = (l.take i).filter (fun x => decide (x < n)) ++ ((if dn = true then [n] else []) ++ (l.take i).filter (fun x => decide (n < x)))
theorem AInv.start (l : List Int) (n : Int) : AInv l n 0 false [] := ⟨by simp, by simp, by simp⟩
theorem any_no {l : List Int} {n : Int} (h : l.any (fun x => decide (n < x)) = false) : l.filter (fun x => decide (n < x)) = [] := by
  rw [List.filter_eq_nil_iff]; intro x hx
  rw [List.any_eq_false] at h
  simpa using h x hx
theorem filt_len (n : Int) : ∀ l : List Int, (l.filter (fun x => decide (x < n))).length + (l.filter (fun x => decide (n < x))).length ≤ l.length
  | [] => by simp
  | a :: l => by
    have ih := filt_len n l
    rw [List.filter_cons, List.filter_cons]
    by_cases h1 : a < n
    · rw [if_pos (by simpa using h1), if_neg (by simp; omega)]; simp; omega
    · rw [if_neg (by simpa using h1)]
      by_cases h2 : n < a
      · rw [if_pos (by simpa using h2)]; simp; omega
      · rw [if_neg (by simpa using h2)]; simp; omega
theorem AInv.len {l : List Int} {n : Int} {i : Nat} {dn : Bool} {O : List Int} (h : AInv l n i dn O) : O.length ≤ i + 1 := by
  have q := filt_len n (l.take i)
  have q2 : (l.take i).length ≤ i := List.length_take_le _ _
  rw [h.out, List.length_append, List.length_append]
  cases dn
  · simp at q ⊢; omega
  · simp at q ⊢; omega
theorem AInv.more {l : List Int} {n : Int} {i : Nat} {dn : Bool} {O : List Int} (h : AInv l n i dn O) (hl : Inc l) {x : Int} (hx : l[i]? = some x) (hne : x ≠ n) :
    (n < x ∧ dn = false ∧ AInv l n (i + 1) true (O ++ [n] ++ [x])) ∨ (n < x ∧ dn = true ∧ AInv l n (i + 1) true (O ++ [x])) ∨ (x < n ∧ dn = false ∧ AInv l n (i + 1) false (O ++ [x])) := by
  have ht : l.take (i + 1) = l.take i ++ [x] := take_more hx
  have hno : ∀ y ∈ l.take (i + 1), y ≠ n := fun y hy => by
    rw [ht, List.mem_append, List.mem_singleton] at hy
    rcases hy with hy | rfl
    · exact h.no y hy
    · exact hne
  rcases Int.lt_trichotomy x n with hlt | hlt | hlt
  · have hd : dn = false := by
      rw [h.hany, List.any_eq_false]
      intro y hy
      have := inc_take_drop hl i y hy x (head_mem hx)
      simp; omega
    refine .inr (.inr ⟨hlt, hd, hno, ?_, ?_⟩)
    · rw [ht, List.any_append, ← h.hany, hd]; simp; omega
    · rw [h.out, hd, ht, List.filter_append, List.filter_append]
      have h1 : (l.take i).filter (fun x => decide (n < x)) = [] := any_no (by rw [← h.hany, hd])
      rw [h1]
      have h2 : decide (x < n) = true := by simpa using hlt
      have h3 : decide (n < x) = false := by simp; omega
      simp [h2, h3]
  · exact absurd hlt hne
  · have h2 : decide (x < n) = false := by simp; omega
    have h3 : decide (n < x) = true := by simpa using hlt
    cases hd : dn with
    | false =>
      refine .inl ⟨hlt, rfl, hno, ?_, ?_⟩
      · rw [ht, List.any_append]; simp [h3]
      · rw [h.out, hd, ht, List.filter_append, List.filter_append]
        have h1 : (l.take i).filter (fun x => decide (n < x)) = [] := any_no (by rw [← h.hany, hd])
        rw [h1]
        simp [h2, h3]
    | true =>
      refine .inr (.inl ⟨hlt, rfl, hno, ?_, ?_⟩)
      · rw [ht, List.any_append]; simp [h3]
      · rw [h.out, hd, ht, List.filter_append, List.filter_append]
        simp [h2, h3]
theorem AInv.done {l : List Int} {n : Int} {dn : Bool} {O : List Int} (h : AInv l n l.length dn O) (hl : Inc l) : Adds l n (if dn = true then O else O ++ [n]) := by
  have ho := h.out
  have hn := h.no
  have hd := h.hany
  rw [List.take_length] at ho hn hd
  have e : (if dn = true then O else O ++ [n]) = l.filter (fun x => decide (x < n)) ++ ([n] ++ l.filter (fun x => decide (n < x))) := by
    cases hd' : dn with
    | true => rw [if_pos rfl, ho, hd']; simp
    | false =>
      rw [if_neg (by simp), ho, hd', any_no (l := l) (by rw [← hd, hd'])]
      simp
  rw [e]
  refine ⟨?_, fun x => ?_, ?_⟩
  · refine List.pairwise_append.2 ⟨hl.filter _, ?_, ?_⟩
    · refine List.pairwise_append.2 ⟨by simp, hl.filter _, ?_⟩
      intro a ha b hb
      rw [List.mem_singleton] at ha
      have := (List.mem_filter.1 hb).2
      simp at this; omega
    · intro a ha b hb
      have h1 := (List.mem_filter.1 ha).2
      simp at h1
      rw [List.mem_append, List.mem_singleton] at hb
      rcases hb with hb | hb
      · omega
      · have := (List.mem_filter.1 hb).2
        simp at this; omega
  · rw [List.mem_append, List.mem_append, List.mem_singleton, List.mem_filter, List.mem_filter]
    constructor
    · rintro (h1 | h1 | h1)
      · exact .inl h1.1
      · exact .inr h1
      · exact .inl h1.1
    · rintro (h1 | h1)
      · have := hn x h1
        rcases Int.lt_trichotomy x n with h2 | h2 | h2
        · exact .inl ⟨h1, by simpa using h2⟩
        · exact absurd h2 this
        · exact .inr (.inr ⟨h1, by simpa using h2⟩)
      · exact .inr (.inl h1)
  · have q : (l.filter (fun x => decide (x < n))).length + (l.filter (fun x => decide (n < x))).length ≤ l.length := by
      clear h ho hn hd e hl
      induction l with
      | nil => simp
      | cons a l ih =>
        rw [List.filter_cons, List.filter_cons]
        by_cases h1 : a < n
        · rw [if_pos (by simpa using h1), if_neg (by simp; omega)]; simp; omega
        · rw [if_neg (by simpa using h1)]
          by_cases h2 : n < a
          · rw [if_pos (by simpa using h2)]; simp; omega
          · rw [if_neg (by simpa using h2)]; simp; omega
    simp only [List.length_append, List.length_cons, List.length_nil]
    omega

/-- Bands' rectangles, the last of them apart. -/
theorem bandE_snoc (y0 y1 : Int) : ∀ (E : List Int) (p q : Int), E.length % 2 = 0 → bandE y0 y1 (E ++ [p, q]) = bandE y0 y1 E ++ [⟨p, y0, q, y1⟩]
  | [], p, q, _ => rfl
  | [x], p, q, h => by simp at h
  | x :: z :: E, p, q, h => by
    show ⟨x, y0, z, y1⟩ :: bandE y0 y1 (E ++ [p, q]) = _
    rw [bandE_snoc y0 y1 E p q (by simp at h; omega)]
    rfl
theorem even_snoc {E : List Int} (h : E.length % 2 = 0) : E = [] ∨ ∃ F p q, E = F ++ [p, q] ∧ F.length % 2 = 0 := by
  rcases List.eq_nil_or_concat E with h1 | ⟨E', q, h1⟩
  · exact .inl h1
  · rw [List.concat_eq_append] at h1
    rcases List.eq_nil_or_concat E' with h2 | ⟨F, p, h2⟩
    · subst h1 h2; simp at h
    · rw [List.concat_eq_append] at h2
      subst h1 h2
      refine .inr ⟨F, p, q, by simp, ?_⟩
      simp at h; omega

/-- A row of a grid, gone through as far as column k: the edges of what is kept. -/
structure RInv (P : Int → Bool) (xs : List Int) (k : Nat) (E : List Int) : Prop where
  inc : Inc E
  even : E.length % 2 = 0
  sub : ∀ e ∈ E, e ∈ xs
  top : ∀ x0, xs[k]? = some x0 → ∀ e ∈ E, e ≤ x0
  par : ∀ x0, xs[k]? = some x0 → ∀ x, x < x0 → inE E x = P x
  len : E.length ≤ 2 * k
/-- What is kept of a row hangs on the columns alone. -/
structure Cols (P : Int → Bool) (xs : List Int) : Prop where
  inc : Inc xs
  low : ∀ x, (∀ z ∈ xs, x < z) → P x = false
  high : ∀ x, (∀ z ∈ xs, z ≤ x) → P x = false
  mid : ∀ (k : Nat) (x0 x1 x : Int), xs[k]? = some x0 → xs[k + 1]? = some x1 → x0 ≤ x → x < x1 → P x = P x0
theorem RInv.start {P : Int → Bool} {xs : List Int} (h : Cols P xs) : RInv P xs 0 [] :=
  ⟨List.Pairwise.nil, rfl, by simp, by simp, fun x0 h0 x hx => by rw [inE_nil, h.low x fun z hz => by have := inc_first h.inc h0 hz; omega], by simp⟩
theorem inc_lt {xs : List Int} (h : Inc xs) {k : Nat} {x0 x1 : Int} (h0 : xs[k]? = some x0) (h1 : xs[k + 1]? = some x1) : x0 < x1 := by
  have g0 := get_lt h0
  have g1 := get_lt h1
  rw [List.getElem?_eq_getElem g0] at h0
  rw [List.getElem?_eq_getElem g1] at h1
  injection h0 with h0
  injection h1 with h1
  have := List.pairwise_iff_getElem.1 h k (k + 1) g0 g1 (by omega)
  omega
theorem RInv.skip {P : Int → Bool} {xs : List Int} {k : Nat} {E : List Int} (r : RInv P xs k E) (h : Cols P xs) {x0 x1 : Int} (h0 : xs[k]? = some x0) (h1 : xs[k + 1]? = some x1) (hP : P x0 = false) : RInv P xs (k + 1) E := by
  have hlt := inc_lt h.inc h0 h1
  refine ⟨r.inc, r.even, r.sub, fun z hz e he => ?_, fun z hz x hx => ?_, by have := r.len; omega⟩
  · rw [h1] at hz; injection hz with hz; have := r.top x0 h0 e he; omega
  · rw [h1] at hz; injection hz with hz; subst hz
    by_cases hx0 : x < x0
    · exact r.par x0 h0 x hx0
    · rw [h.mid k x0 x1 x h0 h1 (by omega) hx, hP, inE_all (fun e he => by have := r.top x0 h0 e he; omega), r.even]; rfl
theorem RInv.fresh {P : Int → Bool} {xs : List Int} {k : Nat} {E : List Int} (r : RInv P xs k E) (h : Cols P xs) {x0 x1 : Int} (h0 : xs[k]? = some x0) (h1 : xs[k + 1]? = some x1) (hP : P x0 = true) (hne : ∀ F p q, E = F ++ [p, q] → q ≠ x0) : RInv P xs (k + 1) (E ++ [x0, x1]) := by
  have hlt := inc_lt h.inc h0 h1
  have hE : ∀ e ∈ E, e < x0 := by
    intro e he
    have h2 := r.top x0 h0 e he
    rcases even_snoc r.even with h3 | ⟨F, p, q, h3, _⟩
    · rw [h3] at he; simp at he
    · have hq := hne F p q h3
      have hi := r.inc
      rw [h3] at hi he
      have hqx := r.top x0 h0 q (by rw [h3]; simp)
      have := (List.pairwise_append.1 hi)
      have h4 := List.pairwise_cons.1 this.2.1
      have h5 := h4.1 q (by simp)
      rw [List.mem_append] at he
      rcases he with he | he
      · have := this.2.2 e he q (by simp); omega
      · simp at he; rcases he with rfl | rfl <;> omega
  refine ⟨?_, by have := r.even; simp; omega, ?_, fun z hz e he => ?_, fun z hz x hx => ?_, by have := r.len; simp; omega⟩
  · refine List.pairwise_append.2 ⟨r.inc, by simpa using hlt, fun e he f hf => ?_⟩
    have := hE e he
    simp at hf; rcases hf with rfl | rfl <;> omega
  · intro e he
    rw [List.mem_append] at he
    rcases he with he | he
    · exact r.sub e he
    · simp at he; rcases he with rfl | rfl
      · exact get_mem h0
      · exact get_mem h1
  · rw [h1] at hz; injection hz with hz; subst hz
    rw [List.mem_append] at he
    rcases he with he | he
    · have := hE e he; omega
    · simp at he; rcases he with rfl | rfl <;> omega
  · rw [h1] at hz; injection hz with hz; subst hz
    by_cases hx0 : x < x0
    · rw [inE_app_far (by intro e he; simp at he; rcases he with rfl | rfl <;> omega)]
      exact r.par x0 h0 x hx0
    · rw [h.mid k x0 x1 x h0 h1 (by omega) hx, hP]
      unfold inE
      rw [List.countP_append, count_all (fun e he => by have := hE e he; omega), List.countP_cons_of_pos (by simp; omega), List.countP_cons_of_neg (by simp; omega)]
      have := r.even
      simp; omega
theorem RInv.on {P : Int → Bool} {xs : List Int} {k : Nat} {F : List Int} {p x0 x1 : Int} (r : RInv P xs k (F ++ [p, x0])) (h : Cols P xs) (h0 : xs[k]? = some x0) (h1 : xs[k + 1]? = some x1) (hP : P x0 = true) : RInv P xs (k + 1) (F ++ [p, x1]) := by
  have hlt := inc_lt h.inc h0 h1
  obtain ⟨i1, i2, i3⟩ := List.pairwise_append.1 r.inc
  have hpx : p < x0 := (List.pairwise_cons.1 i2).1 x0 (by simp)
  have hF : ∀ e ∈ F, e < p := fun e he => i3 e he p (by simp)
  have hev : F.length % 2 = 0 := by have := r.even; simp at this; omega
  refine ⟨?_, by simp; omega, ?_, fun z hz e he => ?_, fun z hz x hx => ?_, by have := r.len; simp at *; omega⟩
  · refine List.pairwise_append.2 ⟨i1, by simp; omega, fun e he f hf => ?_⟩
    have := hF e he
    simp at hf; rcases hf with rfl | rfl <;> omega
  · intro e he
    rw [List.mem_append] at he
    rcases he with he | he
    · exact r.sub e (by simp [he])
    · simp at he; rcases he with rfl | rfl
      · exact r.sub e (by simp)
      · exact get_mem h1
  · rw [h1] at hz; injection hz with hz; subst hz
    rw [List.mem_append] at he
    rcases he with he | he
    · have := hF e he; omega
    · simp at he; rcases he with rfl | rfl <;> omega
  · rw [h1] at hz; injection hz with hz; subst hz
    by_cases hx0 : x < x0
    · rw [← r.par x0 h0 x hx0]
      unfold inE
      rw [List.countP_append, List.countP_append, List.countP_cons, List.countP_cons, List.countP_cons, List.countP_cons]
      have e1 : decide (x0 ≤ x) = false := by simp; omega
      have e2 : decide (x1 ≤ x) = false := by simp; omega
      simp [e1, e2]
    · rw [h.mid k x0 x1 x h0 h1 (by omega) hx, hP]
      unfold inE
      rw [List.countP_append, count_all (fun e he => by have := hF e he; omega), List.countP_cons_of_pos (by simp; omega), List.countP_cons_of_neg (by simp; omega)]
      simp; omega
theorem RInv.done {P : Int → Bool} {xs : List Int} {k : Nat} {E : List Int} (r : RInv P xs k E) (h : Cols P xs) (hk : k + 1 = xs.length ∨ (xs = [] ∧ E = [])) : ∀ x, inE E x = P x := by
  intro x
  rcases hk with hk | ⟨h1, h2⟩
  · obtain ⟨x0, h0⟩ := list_at (show k < xs.length by omega)
    by_cases hx : x < x0
    · exact r.par x0 h0 x hx
    · rw [h.high x (fun z hz => by have := inc_last h.inc h0 hk hz; omega), inE_all (fun e he => by have := r.top x0 h0 e he; omega), r.even]; rfl
  · rw [h2, inE_nil, h.low x (by rw [h1]; simp)]

end Go.Proofs.YtablogiielclaaaGreat
