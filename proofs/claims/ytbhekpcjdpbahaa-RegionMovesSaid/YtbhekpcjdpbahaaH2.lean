/-
  What is proved: what Hull hands back of a row of rectangles.
-/
import Derived.Test.YtbhekpcjdpbahaaH1
import Derived.Lib.Hide
import Derived.Handy
namespace Go.Proofs.Ytbhekpcjdpbahaa
open Go.RowKit Go.Sort

/-- A row of n rectangles lies from cell off of block b on. -/
def Row (w : World) (b off n : Nat) (f : Nat → Rc) : Prop := ∀ k, k < n → w.cell? ⟨b, off + k * 4, none⟩ = some (.int .i64 (f k).a) ∧ w.cell? ⟨b, off + k * 4 + 1, none⟩ = some (.int .i64 (f k).b) ∧
  w.cell? ⟨b, off + k * 4 + 2, none⟩ = some (.int .i64 (f k).c) ∧ w.cell? ⟨b, off + k * 4 + 3, none⟩ = some (.int .i64 (f k).d)
theorem Row.lt {w : World} {b off n : Nat} {f : Nat → Rc} (h : Row w b off n f) {k : Nat} (hk : k < n) : b < w.heap.size := World.block_lt_of_cell? w ⟨b, off + k * 4, none⟩ (h k hk).1
theorem Row.gr {w w' : World} {b off n : Nat} {f : Nat → Rc} (h : Row w b off n f) (g : Gr w w') : Row w' b off n f := fun k hk => by
  have hl := h.lt hk
  obtain ⟨h1, h2, h3, h4⟩ := h k hk
  exact ⟨(g.cell hl).trans h1, (g.cell hl).trans h2, (g.cell hl).trans h3, (g.cell hl).trans h4⟩

set_option maxHeartbeats 4000000 in
theorem hull1 (b off n cap : Nat) (f : Nat → Rc) (w : World) (hn : n ≤ 9223372036854775807) (h : Row w b off n f) (hc : n ≤ cap) :
    Calls Try.prog 79 #[.slice (some ⟨b, off, none⟩) n cap] w
      (Rt w (.agg #[.int .i64 (hullR f n).a, .int .i64 (hullR f n).b, .int .i64 (hullR f n).c, .int .i64 (hullR f n).d])) := by
  go_enter Try.func79, Try.ntmps79
  go_wp2
  go_loopw [8] (fun i wr => ∃ k : Nat, k ≤ n ∧ i = .int .i64 k ∧ Gr w wr ∧ At wr w.heap.size #[Value.int .i64 0, .int .i64 0, .int .i64 0, .int .i64 0] 23 ∧
      At wr (w.heap.size + 1) #[Value.int .i64 (hullR f k).a, .int .i64 (hullR f k).b, .int .i64 (hullR f k).c, .int .i64 (hullR f k).d] 23) (fun i _ => n - (intOf i).toNat)
  case atStart =>
    refine ⟨0, Nat.zero_le _, rfl, ((Gr.refl w).alloc _).alloc _, (At.new w _ _).alloc _, ?_⟩
    have := At.new (w.alloc (.cells #[Value.int .i64 0, .int .i64 0, .int .i64 0, .int .i64 0] 23)) #[Value.int .i64 0, .int .i64 0, .int .i64 0, .int .i64 0] 23
    simp only [World.size_alloc] at this
    exact this
  case round =>
    obtain ⟨k, hk, rfl, G, R0, R1⟩ := hrel
    by_cases hlt : k < n
    · have Hs := (h.gr G) k hlt
      obtain ⟨e1, e2, e3, e4⟩ := Hs
      have lb := (h.gr G).lt hlt
      obtain ⟨V, hV⟩ : ∃ V : Rc, V = f k := ⟨_, rfl⟩
      by_cases he : emptyB V.a V.b V.c V.d = true
      · have hS : hullR f (k + 1) = hullR f k := by rw [hullR_succ]; unfold stepR; rw [← hV, if_pos he]
        have c1 := empty1 V.a V.b V.c V.d
        rw [he] at c1
        rw [← hV] at e1 e2 e3 e4
        clear hV he
        have HS := Lib.hid hS
        clear hS
        go_wp2_with fail
        refine (c1 _).mono ?_
        rintro e W1 ⟨rfl, g1⟩
        replace R0 := (R0.alloc _).gr g1
        replace R1 := (R1.alloc _).gr g1
        have G1 := (G.alloc _).trans g1
        clear e1 e2 e3 e4 lb g1
        go_wp2
        go_roundw
        case rel => exact ⟨k + 1, by omega, by go_num, G1, R0, by rw [HS.out]; exact R1⟩
        case measure => simp [intOf]; omega
      · simp only [Bool.not_eq_true] at he
        have hS : hullR f (k + 1) = joinR (hullR f k) V := by rw [hullR_succ]; unfold stepR; rw [← hV, if_neg (by simp [he])]
        have c1 := empty1 V.a V.b V.c V.d
        rw [he] at c1
        rw [← hV] at e1 e2 e3 e4
        clear hV he
        have HS := Lib.hid hS
        clear hS
        go_wp2_with fail
        refine (c1 _).mono ?_
        rintro e W1 ⟨rfl, g1⟩
        have V1 := (At.new wr _ _).gr g1
        replace R0 := (R0.alloc _).gr g1
        replace R1 := (R1.alloc _).gr g1
        have G1 := (G.alloc _).trans g1
        have k1 := R1.cell
        have kv := V1.cell
        clear e1 e2 e3 e4 lb g1 c1
        go_wp2_with fail
        refine (join1 _ _ _ _ _ _ _ _ _).mono ?_
        rintro e W2 ⟨rfl, g2⟩
        replace R0 := R0.gr g2
        replace R1 := R1.gr g2
        have G2 := G1.trans g2
        clear k1 kv V1 g2
        have k1 := R1.cell
        have f1 := R1.free
        go_wp2
        go_roundw
        case rel =>
          refine ⟨k + 1, by omega, by go_num, ?_, ?_, ?_⟩
          · refine Gr.setCell (Gr.setCell (Gr.setCell (Gr.setCell G2 ?_ _) ?_ _) ?_ _) ?_ _ <;> simp
          · refine At.far (At.far (At.far (At.far R0 ?_ _) ?_ _) ?_ _) ?_ _ <;> simp
          · rw [HS.out]; exact R1.put4 _ _ _ _
        case measure => simp [intOf]; omega
    · obtain rfl : k = n := by omega
      have k0 := R0.cell
      have f0 := R0.free
      have k1 := R1.cell
      go_wp2
      (try simp only [Exit.inBlock, Exit.then])
      refine bodyPost_ret (by simp [results, Try.results79, go_sem, k0]; try rfl) rfl ?_
      refine Rt.rect ⟨rfl, rfl, rfl, rfl⟩ ?_
      refine Gr.setCell (Gr.setCell (Gr.setCell (Gr.setCell G ?_ _) ?_ _) ?_ _) ?_ _ <;> simp

end Go.Proofs.Ytbhekpcjdpbahaa
