/-
  What is proved: what 'bandsOf' of package region hands back of a row of rectangles.
-/
import Derived.Test.YtafceieenhogpaaAdd
import Derived.Deep.RegionHeld3
import Derived.IntWalk
namespace Go.Proofs.Ytafceieenhogpaa
open Go.RowKit Go.Sort

def addE (l : List Bn) (a c : Int) : List Bn :=
  match l[l.length - 1]? with
  | some t => l.set (l.length - 1) ⟨t.y0, t.y1, t.E ++ [a, c]⟩
  | none => l
theorem addE_snoc (l : List Bn) (t : Bn) (a c : Int) : addE (l ++ [t]) a c = l ++ [⟨t.y0, t.y1, t.E ++ [a, c]⟩] := by
  unfold addE; simp
/-- The bands of the first k of a row of rectangles. -/
def bndL (L : List Rc) : Nat → List Bn
  | 0 => []
  | k + 1 => match L[k]? with
    | none => bndL L k
    | some r => if k = 0 ∨ (L[k - 1]?).map (·.b) ≠ some r.b then bndL L k ++ [⟨r.b, r.d, [r.a, r.c]⟩] else addE (bndL L k) r.a r.c
theorem addE_len (l : List Bn) (a c : Int) : (addE l a c).length = l.length := by
  unfold addE; split <;> simp
theorem bndL_new {L : List Rc} {k : Nat} {r : Rc} (hr : L[k]? = some r) (hc : k = 0 ∨ (L[k - 1]?).map (·.b) ≠ some r.b) : bndL L (k + 1) = bndL L k ++ [⟨r.b, r.d, [r.a, r.c]⟩] := by
  show (match L[k]? with | none => _ | some r => _) = _
  rw [hr]
  exact if_pos hc
theorem bndL_add {L : List Rc} {k : Nat} {r : Rc} (hr : L[k]? = some r) (hc : ¬ (k = 0 ∨ (L[k - 1]?).map (·.b) ≠ some r.b)) : bndL L (k + 1) = addE (bndL L k) r.a r.c := by
  show (match L[k]? with | none => _ | some r => _) = _
  rw [hr]
  exact if_neg hc
theorem bndL_len (L : List Rc) : ∀ k, (bndL L k).length ≤ k
  | 0 => by simp [bndL]
  | k + 1 => by
    have := bndL_len L k
    unfold bndL
    split
    · omega
    · split
      · simp; omega
      · rw [addE_len]; omega
theorem bndL_pos (L : List Rc) : ∀ k, 0 < k → k ≤ L.length → 0 < (bndL L k).length
  | 0, h, _ => by omega
  | k + 1, _, hk => by
    unfold bndL
    obtain ⟨r, hr⟩ := list_at (show k < L.length by omega)
    rw [hr]
    by_cases h : k = 0 ∨ (L[k - 1]?).map (·.b) ≠ some r.b
    · simp only [if_pos h]; simp
    · simp only [if_neg h]; rw [addE_len]; exact bndL_pos L k (by omega) (by omega)

/-- The rows of edges of bands lie in blocks of their own. -/
def Dst (bs : List BW) : Prop := bs.Pairwise fun r s => r.A = none ∨ r.A.map (·.block) ≠ s.A.map (·.block)
structure Bnds (w : World) (B : Nat) (A : Option Addr) (c : Nat) (bs : List BW) (N : Nat) : Prop where
  own : OwBs w B A c bs
  dst : Dst bs
  len : ∀ r ∈ bs, r.E.length ≤ 2 * N
theorem Bnds.nil (w : World) (B : Nat) : Bnds w B none 0 [] 0 := ⟨⟨OwB.nil _ _, by simp⟩, List.Pairwise.nil, by simp⟩
theorem Bnds.bl {w w' : World} {B N : Nat} {A : Option Addr} {c : Nat} {bs : List BW} (h : Bnds w B A c bs N) (g : Bl w w') : Bnds w' B A c bs N := ⟨h.own.bl g, h.dst, h.len⟩
theorem Bnds.more {w w2 w' : World} {B N : Nat} {A A2 : Option Addr} {c c2 : Nat} {bs : List BW} (h : Bnds w B A c bs N) (G : Bl w w2) (y0 y1 : Int) (own2 : OwB w' B A2 c2 (bs.map BW.bv ++ [⟨y0, y1, .slice none 0 0⟩])) (ap2 : Apd w2 w' A A2) (hB : B ≤ w.heap.size) :
    Bnds w' B A2 c2 (bs ++ [⟨y0, y1, [], none, 0⟩]) N ∧ Below B w w' := by
  obtain ⟨q1, q2⟩ := OwBs.app (l := bs) (b := ⟨y0, y1, [], none, 0⟩) G (h.own.bl G) (OwI.nil _ _) own2 ap2 hB
  refine ⟨⟨q1, List.pairwise_append.2 ⟨h.dst, by simp, fun r hr s hs => ?_⟩, fun r hr => ?_⟩, q2⟩
  · rw [List.mem_singleton] at hs
    subst hs
    cases hA : r.A with
    | none => exact .inl rfl
    | some a => exact .inr (by simp)
  · rw [List.mem_append, List.mem_singleton] at hr
    rcases hr with hr | rfl
    · exact h.len r hr
    · simp
/-- Edges are added to the last band, and stored. -/
theorem Bnds.edges {w w2 : World} {B N g : Nat} {c c3 : Nat} {A3 : Option Addr} {bs : List BW} {t : BW} (h : Bnds w B (some ⟨g, 0, none⟩) c (bs ++ [t]) N) (x y : Int) (own2 : OwI w2 B A3 c3 (t.E ++ [x, y])) (ap2 : Apd w w2 t.A A3) (hB : B ≤ w.heap.size) (hN : t.E.length ≤ 2 * N) :
    Bnds (w2.setCell ⟨g, bs.length * 3 + 2, none⟩ (.slice A3 (t.E.length + 2) c3)) B (some ⟨g, 0, none⟩) c (bs ++ [⟨t.y0, t.y1, t.E ++ [x, y], A3, c3⟩]) (N + 1) ∧ Below B w (w2.setCell ⟨g, bs.length * 3 + 2, none⟩ (.slice A3 (t.E.length + 2) c3)) := by
  have tOwn := h.own.2 t (by simp)
  have oB := h.own.1
  have ne : (some g) ≠ t.A.map (·.block) := by
    rcases tOwn.addr with ⟨h1, _⟩ | ⟨g', h1, _⟩
    · rw [h1]; simp
    · rw [h1]; rw [h1] at tOwn; intro he; simp at he; exact own_ne oB tOwn he
  have oB2 : OwB w2 B (some ⟨g, 0, none⟩) c ((bs ++ [t]).map BW.bv) := oB.grown ap2.1 (.inr ne)
  have st := World.ownsRow.stored (j := bs.length * 3 + 2) (u := .slice A3 (t.E.length + 2) c3) oB2
  have hkt : ((bs ++ [t]).map BW.bv)[bs.length]? = some t.bv := by simp
  have hset := cB_set ((bs ++ [t]).map BW.bv) bs.length t.bv (BV.mk t.y0 t.y1 (.slice A3 (t.E.length + 2) c3)) 2 (.slice A3 (t.E.length + 2) c3) hkt (by omega) rfl
  have far : ∀ r ∈ bs, OwI w2 B r.A r.c r.E := fun r hr => by
    refine (h.own.2 r (by simp [hr])).grown ap2.1 ?_
    have := (List.pairwise_append.1 h.dst).2.2 r hr t (by simp)
    exact this
  have farB : ∀ (A : Option Addr) (c' : Nat) (E : List Int), OwI w2 B A c' E → OwI (w2.setCell ⟨g, bs.length * 3 + 2, none⟩ (.slice A3 (t.E.length + 2) c3)) B A c' E := fun A c' E ho => ho.far oB2 st.2
  refine ⟨⟨⟨?_, fun r hr => ?_⟩, ?_, fun r hr => ?_⟩, ?_⟩
  · have hm : (bs ++ [⟨t.y0, t.y1, t.E ++ [x, y], A3, c3⟩] : List BW).map BW.bv = ((bs ++ [t]).map BW.bv).set bs.length (BV.mk t.y0 t.y1 (.slice A3 (t.E.length + 2) c3)) := by simp [BW.bv]
    unfold OwB
    rw [hm, hset, List.length_set]
    exact st.1
  · rw [List.mem_append, List.mem_singleton] at hr
    rcases hr with hr | rfl
    · exact farB _ _ _ (far r hr)
    · exact farB _ _ _ own2
  · obtain ⟨d1, _, d3⟩ := List.pairwise_append.1 h.dst
    refine List.pairwise_append.2 ⟨d1, by simp, fun r hr s hs => ?_⟩
    rw [List.mem_singleton] at hs
    subst hs
    have := d3 r hr t (by simp)
    rcases this with h1 | h1
    · exact .inl h1
    · rcases ap2.2 with h2 | h2
      · right; show _ ≠ A3.map _; rw [← h2]; exact h1
      · rcases (h.own.2 r (by simp [hr])).lies with h3 | ⟨k, h3, _, h4⟩
        · exact .inl h3
        · right; show _ ≠ A3.map _; rw [h2, h3]; simp; omega
  · rw [List.mem_append, List.mem_singleton] at hr
    rcases hr with hr | rfl
    · have := h.len r (by simp [hr]); omega
    · simp; omega
  · have b1 : Below B w w2 := Below.grown (Below.refl _ _) ap2.1 hB (fun k hk => by
      rcases tOwn.lies with h1 | ⟨k', h1, h2, _⟩
      · rw [h1] at hk; cases hk
      · rw [h1] at hk; simp at hk; omega)
    refine Below.grown b1 st.2 (Nat.le_trans hB b1.size) (fun k hk => ?_)
    injection hk with hk
    rcases oB.lies with h1 | ⟨k', h1, h2, _⟩
    · cases h1
    · injection h1 with h1; injection h1 with h1; omega

theorem OwB.some_ {w : World} {B c : Nat} {A : Option Addr} {l : List BV} (h : OwB w B A c l) (hl : 0 < l.length) : ∃ g, A = some ⟨g, 0, none⟩ ∧ B ≤ g ∧ g < w.heap.size := by
  rcases h.addr with ⟨_, _, h0⟩ | h0
  · rw [h0] at hl; simp at hl
  · exact h0
theorem Bl.trans2 {a b c : World} (h : Bl a b) (k : Below a.heap.size b c) (_ : a.heap.size ≤ b.heap.size) : Bl a c := Below.trans h k

/-- What bandsOf hands back. -/
def RBn (w : World) (L : List Rc) (e : Ending) (w' : World) : Prop := ∃ (A' : Option Addr) (c' : Nat) (l : List BW), e = .returned (.slice A' l.length c') ∧ OwBs w' w.heap.size A' c' l ∧ l.map BW.bn = bndL L L.length ∧ Bl w w'
theorem OwB.ne_own {w : World} {B B' c c' g : Nat} {A : Option Addr} {l : List BV} {E : List Int} (h : OwB w B (some ⟨g, 0, none⟩) c l) (h' : OwI w B' A c' E) : some g ≠ A.map (·.block) := by
  rcases h'.addr with ⟨h1, _⟩ | ⟨g', h1, _⟩
  · rw [h1]; simp
  · rw [h1]; rw [h1] at h'; intro he; simp at he; exact own_ne h h' he

set_option maxRecDepth 100000 in
set_option maxHeartbeats 16000000 in
theorem bandsOf1 (A : Option Addr) (c : Nat) (L : List Rc) (w : World) (h : Rs w A L) (hl : L.length ≤ 1000000) :
    Calls Try.prog 48 #[.slice A L.length c] w (RBn w L) := by
  go_enter Try.func48, Try.ntmps48
  go_wp2
  go_loopw [3, 9] (fun v i wr => ∃ (k : Nat) (A' : Option Addr) (c' : Nat) (bs : List BW), k ≤ L.length ∧ v = .slice A' bs.length c' ∧ i = .int .i64 k ∧ Bnds wr w.heap.size A' c' bs k ∧ Hid (bs.map BW.bn = bndL L k) ∧ Bl w wr) (fun _ i _ => L.length - (intOf i).toNat)
  case atStart => exact ⟨0, none, 0, [], Nat.zero_le _, rfl, rfl, Bnds.nil _ _, Lib.hid rfl, Bl.refl _⟩
  case round =>
    obtain ⟨k, A', c', bs, hk, rfl, rfl, bn, hb, G⟩ := hrel
    have hbl : bs.length ≤ k := by have := bndL_len L k; rw [← hb.out, List.length_map] at this; exact this
    by_cases hlt : k < L.length
    · obtain ⟨⟨ra, rb, rc, rd⟩, hr⟩ := list_at hlt
      obtain ⟨b, off, rfl, hrow⟩ := h.opened (by omega)
      obtain ⟨e1, e2, e3, e4⟩ := (hrow.bl G) k _ hr
      dsimp only at e1 e2 e3 e4
      have G1 := G.alloc (.cells #[.int .i64 ra, .int .i64 rb, .int .i64 rc, .int .i64 rd] 24)
      have bn1 := bn.bl ((Bl.refl wr).alloc (.cells #[.int .i64 ra, .int .i64 rb, .int .i64 rc, .int .i64 rd] 24))
      have bx1 := At.new wr #[.int .i64 ra, .int .i64 rb, .int .i64 rc, .int .i64 rd] 24
      have szo := G.size
      have kb := bx1.cells
      rcases Nat.eq_zero_or_pos k with h0 | h0
      · subst h0
        have E2 : True := trivial
        simp only [Nat.zero_mul, Nat.add_zero] at e1 e2 e3 e4
        replace hr := Lib.hid hr
        go_wp2
        refine wp_region_quiet_grown (by kernel_rfl) (by kernel_rfl) ?_
        repeat (first | go_big_quiet_step (fail) | quiet_step (fail))
        refine wpQuiet_nil ?_
        intro W2 g8
        replace g8 : Gr _ W2 := g8
        have bx2 := bx1.gr g8
        have bn2 := bn1.bl g8.bl
        have G2 := G1.gr g8
        clear g8 kb E2
        have kc := bx2.cell
        have sz2 := G2.size
        have sz3 : wr.heap.size < W2.heap.size := bx2.lt
        go_wp2_with (at_builtin; refine wp_app_b rfl (.tmp 27) (.tmp 33) rfl A' c' (bs.map BW.bv) (by rw [List.length_map]; rfl) w.heap.size (bn2.own.1.bl ((Bl.refl W2).alloc (.cells #[.int .i64 rb, .int .i64 rd, .slice none 0 0] 92))) W2.heap.size ⟨rb, rd, .slice none 0 0⟩ 1 rfl (At.new W2 _ _) rfl (by rw [List.length_map]; omega) (by simp; omega) ?_; intro A2 c2 W3 own3 ap3; obtain ⟨g, rfl, hg1, hg2⟩ := own3.some_ (by simp))
        obtain ⟨bn3, bl3⟩ := bn2.more ((Bl.refl W2).alloc (.cells #[.int .i64 rb, .int .i64 rd, .slice none 0 0] 92)) rb rd own3 ap3 sz2
        have bx3 := (bx2.alloc (.cells #[.int .i64 rb, .int .i64 rd, .slice none 0 0] 92)).grown ap3.1 (OwB.ne_at bn2.own.1 bx2 (by decide))
        have G3 := G2.trans2 bl3 sz2
        have hkt : ((bs ++ [(⟨rb, rd, ([] : List Int), none, 0⟩ : BW)]).map BW.bv)[bs.length]? = some (BW.bv (⟨rb, rd, ([] : List Int), none, 0⟩ : BW)) := by simp
        obtain ⟨m1, m2, m3⟩ := bn3.own.1.row _ _ hkt
        simp only [Nat.zero_add, BW.bv] at m1 m2 m3
        have tO : OwI W3 w.heap.size none 0 ([] : List Int) := bn3.own.2 (⟨rb, rd, ([] : List Int), none, 0⟩ : BW) (by simp)
        have fz := bn3.own.1.free
        have n0 := bx3.cell 0
        have n2 := bx3.cell 2
        simp only [List.getElem?_toArray, List.getElem?_cons_zero, List.getElem?_cons_succ] at n0 n2
        have lb1 := bx3.lt
        have lb2 : g < W3.heap.size := World.block_lt_of_cell? _ _ m1
        have ne1 := OwI.ne_at tO bx3 (by decide)
        have ne2 := OwB.ne_own bn3.own.1 tO
        have hEl : ([] : List Int).length ≤ 2 * 1000000 := by have := bn3.len (⟨rb, rd, ([] : List Int), none, 0⟩ : BW) (by simp); simp only at this; omega
        go_wp2
        go_region_law (refine step_app_ii (by rfl) (.tmp 44) (.tmp 49) (by rfl) none 0 ([] : List Int) (by rfl) w.heap.size (tO.bl (((Bl.refl W3).alloc _).drew)) W3.heap.size ra rc 2 (by rfl) (At.drew (At.new W3 _ _)) (by omega) (by simp; omega) ?_; intro A4 c4 w4 own4 ap4; have oB4 := (bn3.own.1.bl (((Bl.refl W3).alloc _).drew)).grown ap4.1 (.inr ne2); have m4 := (oB4.row _ _ hkt).2.2; have fz4 := oB4.free (bs.length * 3 + 2); simp only [Nat.zero_add, BW.bv] at m4)
        all_goals
          obtain ⟨bn5, bl5⟩ := (bn3.bl (((Bl.refl W3).alloc (.cells #[.int .i64 ra, .int .i64 rc] 3)).drew)).edges ra rc own4 ap4 (by simp; omega) (bn3.len (⟨rb, rd, ([] : List Int), none, 0⟩ : BW) (by simp))
          have G5 := ((G3.alloc (.cells #[.int .i64 ra, .int .i64 rc] 3)).drew).trans2 bl5 (by simp; omega)
          clear m1 m2 m3 m4 n0 n2 fz fz4
          go_wp2
          go_roundw
          case rel => exact ⟨0 + 1, some ⟨g, 0, none⟩, c2, bs ++ [⟨rb, rd, ([] : List Int) ++ [ra, rc], A4, c4⟩], by omega, by simp, by go_num, bn5, Lib.hid (by simp only [List.map_append]; exact (by rw [bndL_new hr.out (.inl rfl), ← hb.out]; rfl)), G5⟩
          case measure => simp [intOf]; omega
      · obtain ⟨m, rfl⟩ : ∃ m, k = m + 1 := ⟨k - 1, by omega⟩
        obtain ⟨p, hp⟩ := list_at (show m < L.length by omega)
        have E0 := fun n os => ((hrow.bl ((G1.drewN n).grow os)) m p hp)
        have E2 := fun n os => (E0 n os).2.1
        clear E0
        have hz0 : ((m : Int) + 1 == 0) = false := by simp; omega
        have hw1 : IntKind.i64.wrap (m : Int) = (m : Int) := IntWalk.i64_in _ (by omega)
        have hm1 : (m : Int) < (L.length : Int) := by omega

        by_cases heq : p.b = rb
        · have q1 : (rb == p.b) = true := by simp [heq]
          have q2 : (rb != p.b) = false := by simp [heq]
          have hbp := bndL_pos L (m + 1) (by omega) (by omega)
          have hstep := bndL_add (L := L) (k := m + 1) hr (by simp [hp, heq])
          replace hstep := Lib.hid hstep
          replace heq := Lib.hid heq
          replace hr := Lib.hid hr
          replace hp := Lib.hid hp
          rw [← hb.out, List.length_map] at hbp
          rcases List.eq_nil_or_concat bs with rfl | ⟨ini, ⟨ty0, ty1, tE, tA, tc⟩, rfl⟩
          · simp at hbp
          rw [List.concat_eq_append] at *
          have hn : (ini ++ [(⟨ty0, ty1, tE, tA, tc⟩ : BW)]).length = ini.length + 1 := by simp
          rw [hn] at hbl
          rw [hn]
          clear hn
          obtain ⟨g, rfl, hg1, hg2⟩ := bn1.own.1.some_ (by simp)
          go_wp2
          refine wp_region_quiet_grown (by kernel_rfl) (by kernel_rfl) ?_
          repeat (first | go_big_quiet_step (fail) | quiet_step (fail))
          refine wpQuiet_nil ?_
          intro W2 g8
          replace g8 : Gr _ W2 := g8
          have bx3 := bx1.gr g8
          have bn3 := bn1.bl g8.bl
          have G3 := G1.gr g8
          obtain ⟨W3, hW3⟩ : ∃ W3 : World, W3 = W2 := ⟨_, rfl⟩
          subst hW3
          obtain ⟨c2, hc2⟩ : ∃ c2 : Nat, c2 = c' := ⟨_, rfl⟩
          subst hc2
          clear g8 kb E2
          have kc := bx3.cell
          have sz2 := G3.size
          go_wp2
          have hkt : ((ini ++ [(⟨ty0, ty1, tE, tA, tc⟩ : BW)]).map BW.bv)[ini.length]? = some (BW.bv (⟨ty0, ty1, tE, tA, tc⟩ : BW)) := by simp
          obtain ⟨m1, m2, m3⟩ := bn3.own.1.row _ _ hkt
          simp only [Nat.zero_add, BW.bv] at m1 m2 m3
          have tO : OwI W3 w.heap.size tA tc tE := bn3.own.2 (⟨ty0, ty1, tE, tA, tc⟩ : BW) (by simp)
          have fz := bn3.own.1.free
          have n0 := bx3.cell 0
          have n2 := bx3.cell 2
          simp only [List.getElem?_toArray, List.getElem?_cons_zero, List.getElem?_cons_succ] at n0 n2
          have lb1 := bx3.lt
          have lb2 : g < W3.heap.size := World.block_lt_of_cell? _ _ m1
          have ne1 := OwI.ne_at tO bx3 (by decide)
          have ne2 := OwB.ne_own bn3.own.1 tO
          have hEl : tE.length ≤ 2 * 1000000 := by have := bn3.len (⟨ty0, ty1, tE, tA, tc⟩ : BW) (by simp); simp only at this; omega
          go_wp2
          go_region_law (refine step_app_ii (by rfl) (.tmp 44) (.tmp 49) (by rfl) tA tc tE (by rfl) w.heap.size (tO.bl (((Bl.refl W3).alloc _).drew)) W3.heap.size ra rc 2 (by rfl) (At.drew (At.new W3 _ _)) (by omega) (by simp; omega) ?_; intro A4 c4 w4 own4 ap4; have oB4 := (bn3.own.1.bl (((Bl.refl W3).alloc _).drew)).grown ap4.1 (.inr ne2); have m4 := (oB4.row _ _ hkt).2.2; have fz4 := oB4.free (ini.length * 3 + 2); simp only [Nat.zero_add, BW.bv] at m4)
          all_goals
            obtain ⟨bn5, bl5⟩ := (bn3.bl (((Bl.refl W3).alloc (.cells #[.int .i64 ra, .int .i64 rc] 3)).drew)).edges ra rc own4 ap4 (by simp; omega) (bn3.len (⟨ty0, ty1, tE, tA, tc⟩ : BW) (by simp))
            have G5 := ((G3.alloc (.cells #[.int .i64 ra, .int .i64 rc] 3)).drew).trans2 bl5 (by simp; omega)
            clear m1 m2 m3 m4 n0 n2 fz fz4
            go_wp2
            go_roundw
            case rel => exact ⟨(m + 1) + 1, some ⟨g, 0, none⟩, c2, ini ++ [⟨ty0, ty1, tE ++ [ra, rc], A4, c4⟩], by omega, by simp, by go_num, bn5, Lib.hid (by simp only [List.map_append]; exact (by rw [hstep.out, ← hb.out, List.map_append]; show _ = addE (_ ++ [⟨ty0, ty1, tE⟩]) ra rc; rw [addE_snoc]; rfl)), G5⟩
            case measure => simp [intOf]; omega
        · have q1 : (rb == p.b) = false := by simp; exact fun h => heq h.symm
          have q2 : (rb != p.b) = true := by simp; exact fun h => heq h.symm
          have hstep := bndL_new (L := L) (k := m + 1) hr (.inr (by simp [hp, heq]))
          replace hstep := Lib.hid hstep
          replace heq := Lib.hid heq
          replace hr := Lib.hid hr
          replace hp := Lib.hid hp
          go_wp2
          refine wp_region_quiet_grown (by kernel_rfl) (by kernel_rfl) ?_
          repeat (first | go_big_quiet_step (fail) | quiet_step (fail))
          refine wpQuiet_nil ?_
          intro W2 g8
          replace g8 : Gr _ W2 := g8
          have bx2 := bx1.gr g8
          have bn2 := bn1.bl g8.bl
          have G2 := G1.gr g8
          clear g8 kb E2
          have kc := bx2.cell
          have sz2 := G2.size
          have sz3 : wr.heap.size < W2.heap.size := bx2.lt
          go_wp2_with (at_builtin; refine wp_app_b rfl (.tmp 27) (.tmp 33) rfl A' c' (bs.map BW.bv) (by rw [List.length_map]; rfl) w.heap.size (bn2.own.1.bl ((Bl.refl W2).alloc (.cells #[.int .i64 rb, .int .i64 rd, .slice none 0 0] 92))) W2.heap.size ⟨rb, rd, .slice none 0 0⟩ 1 rfl (At.new W2 _ _) rfl (by rw [List.length_map]; omega) (by simp; omega) ?_; intro A2 c2 W3 own3 ap3; obtain ⟨g, rfl, hg1, hg2⟩ := own3.some_ (by simp))
          obtain ⟨bn3, bl3⟩ := bn2.more ((Bl.refl W2).alloc (.cells #[.int .i64 rb, .int .i64 rd, .slice none 0 0] 92)) rb rd own3 ap3 sz2
          have bx3 := (bx2.alloc (.cells #[.int .i64 rb, .int .i64 rd, .slice none 0 0] 92)).grown ap3.1 (OwB.ne_at bn2.own.1 bx2 (by decide))
          have G3 := G2.trans2 bl3 sz2
          have hkt : ((bs ++ [(⟨rb, rd, ([] : List Int), none, 0⟩ : BW)]).map BW.bv)[bs.length]? = some (BW.bv (⟨rb, rd, ([] : List Int), none, 0⟩ : BW)) := by simp
          obtain ⟨m1, m2, m3⟩ := bn3.own.1.row _ _ hkt
          simp only [Nat.zero_add, BW.bv] at m1 m2 m3
          have tO : OwI W3 w.heap.size none 0 ([] : List Int) := bn3.own.2 (⟨rb, rd, ([] : List Int), none, 0⟩ : BW) (by simp)
          have fz := bn3.own.1.free
          have n0 := bx3.cell 0
          have n2 := bx3.cell 2
          simp only [List.getElem?_toArray, List.getElem?_cons_zero, List.getElem?_cons_succ] at n0 n2
          have lb1 := bx3.lt
          have lb2 : g < W3.heap.size := World.block_lt_of_cell? _ _ m1
          have ne1 := OwI.ne_at tO bx3 (by decide)
          have ne2 := OwB.ne_own bn3.own.1 tO
          have hEl : ([] : List Int).length ≤ 2 * 1000000 := by have := bn3.len (⟨rb, rd, ([] : List Int), none, 0⟩ : BW) (by simp); simp only at this; omega
          go_wp2
          go_region_law (refine step_app_ii (by rfl) (.tmp 44) (.tmp 49) (by rfl) none 0 ([] : List Int) (by rfl) w.heap.size (tO.bl (((Bl.refl W3).alloc _).drew)) W3.heap.size ra rc 2 (by rfl) (At.drew (At.new W3 _ _)) (by omega) (by simp; omega) ?_; intro A4 c4 w4 own4 ap4; have oB4 := (bn3.own.1.bl (((Bl.refl W3).alloc _).drew)).grown ap4.1 (.inr ne2); have m4 := (oB4.row _ _ hkt).2.2; have fz4 := oB4.free (bs.length * 3 + 2); simp only [Nat.zero_add, BW.bv] at m4)
          all_goals
            obtain ⟨bn5, bl5⟩ := (bn3.bl (((Bl.refl W3).alloc (.cells #[.int .i64 ra, .int .i64 rc] 3)).drew)).edges ra rc own4 ap4 (by simp; omega) (bn3.len (⟨rb, rd, ([] : List Int), none, 0⟩ : BW) (by simp))
            have G5 := ((G3.alloc (.cells #[.int .i64 ra, .int .i64 rc] 3)).drew).trans2 bl5 (by simp; omega)
            clear m1 m2 m3 m4 n0 n2 fz fz4
            go_wp2
            go_roundw
            case rel => exact ⟨(m + 1) + 1, some ⟨g, 0, none⟩, c2, bs ++ [⟨rb, rd, ([] : List Int) ++ [ra, rc], A4, c4⟩], by omega, by simp, by go_num, bn5, Lib.hid (by simp only [List.map_append]; exact (by rw [hstep.out, ← hb.out]; rfl)), G5⟩
            case measure => simp [intOf]; omega
    · obtain rfl : k = L.length := by omega
      go_wp2
      go_ret
      exact ⟨A', c', bs, rfl, bn.own, hb.out, G⟩

end Go.Proofs.Ytafceieenhogpaa
