/-
  What is proved: what 'add' of package region does to the bands that the call owns.
-/
import Derived.Test.YtafceieenhogpaaK
import Derived.StillTailTactics
import Derived.Deep.QuietTactic
import Derived.BigQuiet
namespace Go.Proofs.Ytafceieenhogpaa
open Go.RowKit Go.Sort

/-- The bands, and one below them. -/
def addL (l : List Bn) (b : Bn) : List Bn :=
  match l[l.length - 1]? with
  | some t => if goesB t b = true then l.set (l.length - 1) ⟨t.y0, b.y1, t.E⟩ else l ++ [b]
  | none => l ++ [b]

/-- Bands that a call owns, with their edges. -/
def OwBs (w : World) (B : Nat) (A : Option Addr) (c : Nat) (l : List BW) : Prop := OwB w B A c (l.map BW.bv) ∧ ∀ r ∈ l, OwI w B r.A r.c r.E
theorem OwBs.bl {w w' : World} {B : Nat} {A : Option Addr} {c : Nat} {l : List BW} (h : OwBs w B A c l) (g : Bl w w') : OwBs w' B A c l := ⟨h.1.bl g, fun r hr => (h.2 r hr).bl g⟩
theorem own_ne {w : World} {B B' g g' c c' : Nat} {l : List BV} {E : List Int} (h : OwB w B (some ⟨g, 0, none⟩) c l) (h' : OwI w B' (some ⟨g', 0, none⟩) c' E) : g ≠ g' := by
  rintro rfl
  rcases h.2 with ⟨h1, _⟩ | ⟨x, cap, cur, h1, _, h3, _⟩
  · injection h1 with h1; cases h1
  · rcases h'.2 with ⟨h1', _⟩ | ⟨x', cap', cur', h1', _, h3', _⟩
    · injection h1' with h1'; cases h1'
    · injection h1 with a b c
      injection a with a
      injection a with a
      injection h1' with a' b' c'
      injection a' with a'
      injection a' with a'
      subst a a'
      rw [h3] at h3'
      injection h3' with h3'
      injection h3' with _ h4
      exact absurd h4 (by decide)
/-- A row of ints stays when the row of bands turns. -/
theorem OwI.far {w w' : World} {B B' c c' : Nat} {A A' : Option Addr} {l : List BV} {E : List Int} (h' : OwI w B' A' c' E) (h : OwB w B A c l) (g : w.grownBy w' (A.map (·.block))) : OwI w' B' A' c' E := by
  rcases h'.addr with ⟨rfl, _, _⟩ | ⟨g', rfl, _⟩
  · exact h'.grown g (.inl rfl)
  · refine h'.grown g (.inr ?_)
    rcases h.addr with ⟨rfl, _, _⟩ | ⟨g0, rfl, _⟩
    · simp
    · intro he; simp at he; exact own_ne h h' he.symm

def AddQ (w : World) (B : Nat) (l : List BW) (b : BW) (e : Ending) (w' : World) : Prop :=
  ∃ (A : Option Addr) (c : Nat) (l' : List BW), e = .returned (.slice A l'.length c) ∧ OwBs w' B A c l' ∧ l'.map BW.bn = addL (l.map BW.bn) b.bn ∧ Below B w w'

theorem addL_nil (b : Bn) : addL [] b = [b] := rfl
theorem addL_snoc (l : List Bn) (t b : Bn) : addL (l ++ [t]) b = if goesB t b = true then l ++ [⟨t.y0, b.y1, t.E⟩] else l ++ [t] ++ [b] := by
  unfold addL
  simp

theorem OwBs.app {w w2 w' : World} {B c c2 : Nat} {A A2 : Option Addr} {l : List BW} {b : BW} (G : Bl w w2) (h : OwBs w2 B A c l) (hb : OwI w2 B b.A b.c b.E) (own2 : OwB w' B A2 c2 (l.map BW.bv ++ [b.bv])) (ap2 : Apd w2 w' A A2) (hB : B ≤ w.heap.size) :
    OwBs w' B A2 c2 (l ++ [b]) ∧ Below B w w' := by
  refine ⟨⟨by rw [List.map_append]; exact own2, fun r hr => ?_⟩, ?_⟩
  · rw [List.mem_append, List.mem_singleton] at hr
    rcases hr with hr | rfl
    · exact (h.2 r hr).far h.1 ap2.1
    · exact hb.far h.1 ap2.1
  · refine Below.grown (Below.mono G hB) ap2.1 (Nat.le_trans hB G.size) ?_
    intro k hk
    rcases h.1.lies with rfl | ⟨k', rfl, h1, _⟩
    · cases hk
    · simp at hk; omega

set_option maxHeartbeats 4000000 in
theorem add1 (A : Option Addr) (c : Nat) (l : List BW) (b : BW) (w : World) (B : Nat) (h : OwBs w B A c l) (hb : OwI w B b.A b.c b.E) (hB : B ≤ w.heap.size) (hl : l.length ≤ 1000000) (hE : ∀ r ∈ l, r.E.length ≤ 9000000) (hbE : b.E.length ≤ 9000000) :
    Calls Try.prog 115 #[.slice A l.length c, .agg #[.int .i64 b.y0, .int .i64 b.y1, .slice b.A b.E.length b.c]] w (AddQ w B l b) := by
  have hone : b.bv.one := rfl
  rcases List.eq_nil_or_concat l with rfl | ⟨l, t, rfl⟩
  · have ow := h.1
    go_enter Try.func115, Try.ntmps115
    go_wp2
    refine wp_region_quiet_grown (by assumption) (by kernel_rfl) ?_
    repeat (first | go_big_quiet_step (fail) | quiet_step (fail))
    refine wpQuiet_nil ?_
    intro W g8
    replace g8 : Gr _ W := g8
    have bx := (At.new w #[.int .i64 b.y0, .int .i64 b.y1, .slice b.A b.E.length b.c] 92).gr g8
    have G := ((Bl.refl w).alloc (.cells #[.int .i64 b.y0, .int .i64 b.y1, .slice b.A b.E.length b.c] 92)).gr g8
    have k0 := bx.cell
    clear g8
    have sz := G.size
    have ow3 := (ow.bl G).bl ((Bl.refl W).alloc (.cells #[.int .i64 b.y0, .int .i64 b.y1, .slice b.A b.E.length b.c] 92))
    go_wp2_with (at_builtin; refine wp_app_b rfl (.tmp 27) (.tmp 29) rfl A c [] rfl B ow3 W.heap.size b.bv 1 rfl (At.new _ _ _) hone (by simp) (by simp; omega) ?_; intro A2 c2 w2 own2 ap2)
    go_ret
    have G2 := (G.alloc (.cells #[.int .i64 b.y0, .int .i64 b.y1, .slice b.A b.E.length b.c] 92))
    obtain ⟨q1, q2⟩ := OwBs.app (l := []) (b := b) G2 ⟨ow3, by simp⟩ (hb.bl G2) own2 ap2 hB
    exact ⟨A2, c2, [] ++ [b], by simp, q1, by simp [addL_nil], q2⟩
  · rw [List.concat_eq_append] at *
    obtain ⟨ow, oe⟩ := h
    obtain ⟨g, rfl, hg1, hg2⟩ : ∃ g, A = some ⟨g, 0, none⟩ ∧ B ≤ g ∧ g < w.heap.size := by
      rcases ow.addr with ⟨_, _, h0⟩ | h0
      · simp at h0
      · exact h0
    obtain ⟨k, hk⟩ : ∃ k, k = l.length := ⟨_, rfl⟩
    have hn : (l ++ [t]).length = k + 1 := by simp [hk]
    have hkt : ((l ++ [t]).map BW.bv)[k]? = some t.bv := by subst hk; simp
    have ok_t : t.ok w := ⟨(oe t (by simp)).cap, (oe t (by simp)).is⟩
    have ok_b : b.ok w := ⟨hb.cap, hb.is⟩
    have hlt : t.E.length ≤ 9000000 := hE t (by simp)
    have G0 := (Bl.refl w).alloc (.cells #[.int .i64 b.y0, .int .i64 b.y1, .slice b.A b.E.length b.c] 92)
    have bx0 := At.new w #[.int .i64 b.y0, .int .i64 b.y1, .slice b.A b.E.length b.c] 92
    have kb := bx0.cells
    have E := fun n os => ((ow.row.bl ((G0.drewN n).grow os)) k t.bv hkt)
    simp only [Nat.zero_add] at E
    have E1 := fun n os => (E n os).1
    have E2 := fun n os => (E n os).2.1
    have E3 := fun n os => (E n os).2.2
    clear E
    simp only [BW.bv] at E1 E2 E3
    have c1 : ∀ n os, Calls Try.prog 49 #[.agg #[.int .i64 t.y0, .int .i64 t.y1, .slice t.A t.E.length t.c], .agg #[.int .i64 b.y0, .int .i64 b.y1, .slice b.A b.E.length b.c]] _ _ := fun n os => goesOn1 t b (Go.Sort.grow (World.drewN (w.alloc (.cells #[.int .i64 b.y0, .int .i64 b.y1, .slice b.A b.E.length b.c] 92)) n) os) (ok_t.bl ((G0.drewN n).grow os)) (ok_b.bl ((G0.drewN n).grow os)) (by omega) (by omega)
    have hkl : k ≤ 1000000 := by simp at hl; omega
    by_cases hgo : goesB t.bn b.bn = true
    · rw [hgo] at c1
      rw [hn]
      replace hgo := Lib.hid hgo
      replace hn := Lib.hid hn
      replace hk := Lib.hid hk
      replace hkt := Lib.hid hkt
      go_enter Try.func115, Try.ntmps115
      go_wp2
      refine wp_region_quiet_grown (by assumption) (by kernel_rfl) ?_
      repeat (first | go_big_quiet_step ((go_at_call 49; exact Calls.grown (c1 _ _))) | quiet_step ((go_at_call 49; exact Calls.grown (c1 _ _))))
      refine wpQuiet_nil ?_
      intro W g8
      replace g8 : Gr _ W := g8
      have bx := bx0.gr g8
      have G := G0.gr g8
      clear g8 E1 E2 E3 kb c1 G0 bx0
      have k0 := bx.cell
      have ow3 := ow.bl G
      obtain ⟨e1, e2, e3⟩ := ow3.row k t.bv hkt.out
      simp only [Nat.zero_add] at e1 e2 e3
      have f0 := ow3.free
      have sz := G.size
      go_wp2
      go_ret
      have st := World.ownsRow.stored (j := k * 3 + 1) (u := .int .i64 b.y1) ow3
      have hset := cB_set ((l ++ [t]).map BW.bv) k t.bv (BV.mk t.y0 b.y1 t.bv.v) 1 (.int .i64 b.y1) hkt.out (by omega) rfl
      refine ⟨some ⟨g, 0, none⟩, c, l ++ [⟨t.y0, b.y1, t.E, t.A, t.c⟩], ?_, ⟨?_, ?_⟩, ?_, ?_⟩
      · show Ending.returned (.slice _ (k + 1) c) = _
        simp [hk.out]
      · have hm : (l ++ [⟨t.y0, b.y1, t.E, t.A, t.c⟩] : List BW).map BW.bv = ((l ++ [t]).map BW.bv).set k (BV.mk t.y0 b.y1 t.bv.v) := by
          rw [hk.out]; simp [BW.bv]
        unfold OwB
        rw [hm, hset, List.length_set]
        exact st.1
      · intro r hr
        rw [List.mem_append, List.mem_singleton] at hr
        rcases hr with hr | rfl
        · exact ((oe r (by simp [hr])).bl G).far ow3 st.2
        · exact ((oe t (by simp)).bl G).far ow3 st.2
      · rw [List.map_append, List.map_append]
        show _ = addL (_ ++ [t.bn]) b.bn
        rw [addL_snoc, if_pos hgo.out]
        rfl
      · exact Below.grown (Below.mono G hB) st.2 (Nat.le_trans hB G.size) (fun k' hk' => by injection hk' with hk'; omega)
    · simp only [Bool.not_eq_true] at hgo
      rw [hgo] at c1
      rw [hn]
      replace hgo := Lib.hid hgo
      replace hn := Lib.hid hn
      replace hk := Lib.hid hk
      replace hkt := Lib.hid hkt
      go_enter Try.func115, Try.ntmps115
      go_wp2
      refine wp_region_quiet_grown (by assumption) (by kernel_rfl) ?_
      repeat (first | go_big_quiet_step ((go_at_call 49; exact Calls.grown (c1 _ _))) | quiet_step ((go_at_call 49; exact Calls.grown (c1 _ _))))
      refine wpQuiet_nil ?_
      intro W g8
      replace g8 : Gr _ W := g8
      have bx := bx0.gr g8
      have G := G0.gr g8
      clear g8 E1 E2 E3 kb c1 G0 bx0
      have k0 := bx.cell
      have sz := G.size
      have hl2 : ((l ++ [t]).map BW.bv).length = k + 1 := by simp [hk.out]
      replace hl2 := Lib.hid hl2
      have ow3 := (ow.bl G).bl ((Bl.refl W).alloc (.cells #[.int .i64 b.y0, .int .i64 b.y1, .slice b.A b.E.length b.c] 92))
      go_wp2_with (at_builtin; refine wp_app_b rfl (.tmp 27) (.tmp 29) rfl (some ⟨g, 0, none⟩) c ((l ++ [t]).map BW.bv) (by rw [hl2.out]; rfl) B ow3 W.heap.size b.bv 1 rfl (At.new _ _ _) hone (by rw [hl2.out]; omega) (by simp; omega) ?_; intro A2 c2 w2 own2 ap2)
      go_ret
      have G2 := (G.alloc (.cells #[.int .i64 b.y0, .int .i64 b.y1, .slice b.A b.E.length b.c] 92))
      obtain ⟨q1, q2⟩ := OwBs.app (l := l ++ [t]) (b := b) G2 ⟨ow3, fun r hr => (oe r hr).bl G2⟩ (hb.bl G2) own2 ap2 hB
      refine ⟨A2, c2, l ++ [t] ++ [b], by simp, q1, ?_, q2⟩
      rw [List.map_append, List.map_append]
      show _ = addL (_ ++ [t.bn]) b.bn
      rw [addL_snoc, if_neg (by rw [hgo.out]; simp)]
      rfl

end Go.Proofs.Ytafceieenhogpaa
