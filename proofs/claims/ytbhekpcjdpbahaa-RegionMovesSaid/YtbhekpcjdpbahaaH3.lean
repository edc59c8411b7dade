/-
  What is proved: what the document's own Hull hands back of a row of rectangles.
-/
import Derived.Test.YtbhekpcjdpbahaaH2
import Derived.StillTailTactics
import Derived.Lib.Hide
import Derived.Handy
namespace Go.Proofs.Ytbhekpcjdpbahaa
open Go.RowKit Go.Sort

def someB (f : Nat → Rc) : Nat → Bool
  | 0 => false
  | k + 1 => if emptyB (f k).a (f k).b (f k).c (f k).d = true then someB f k else true
theorem some_spec (f : Nat → Rc) : ∀ k, (someB f k = false → (hullR f k).a = 0 ∧ (hullR f k).b = 0 ∧ (hullR f k).c = 0 ∧ (hullR f k).d = 0) ∧ (someB f k = true → (hullR f k).a < (hullR f k).c ∧ (hullR f k).b < (hullR f k).d)
  | 0 => ⟨fun _ => ⟨rfl, rfl, rfl, rfl⟩, fun h => (by cases h)⟩
  | k + 1 => by
    have ih := some_spec f k
    rw [hullR_succ]
    unfold someB stepR
    by_cases he : emptyB (f k).a (f k).b (f k).c (f k).d = true
    · rw [if_pos he, if_pos he]; exact ih
    · rw [if_neg he, if_neg he]
      refine ⟨fun h => (by cases h), fun _ => ?_⟩
      simp only [emptyB, decide_eq_true_eq] at he
      unfold joinR
      by_cases hz : (hullR f k).a = 0 ∧ (hullR f k).b = 0 ∧ (hullR f k).c = 0 ∧ (hullR f k).d = 0
      · rw [if_pos hz]; omega
      · rw [if_neg hz]; dsimp only
        have : someB f k = true := by
          cases h : someB f k with
          | true => rfl
          | false => exact absurd (ih.1 h) hz
        have := ih.2 this
        omega

attribute [local go_sem ↓] run_min2 run_max2

set_option maxRecDepth 100000 in
set_option maxHeartbeats 8000000 in
theorem refhull1 (b off n cap : Nat) (f : Nat → Rc) (w : World) (hn : n ≤ 9223372036854775807) (h : Row w b off n f) (hc : n ≤ cap) :
    Calls Try.prog 81 #[.slice (some ⟨b, off, none⟩) n cap] w
      (Rt w (.agg #[.int .i64 (hullR f n).a, .int .i64 (hullR f n).b, .int .i64 (hullR f n).c, .int .i64 (hullR f n).d])) := by
  go_enter Try.func81, Try.ntmps81
  go_wp2
  go_loopw [4, 5] (fun s i wr => ∃ k : Nat, k ≤ n ∧ s = .bool (someB f k) ∧ i = .int .i64 k ∧ Gr w wr ∧ At wr w.heap.size #[Value.int .i64 0, .int .i64 0, .int .i64 0, .int .i64 0] 23 ∧
      At wr (w.heap.size + 1) #[Value.int .i64 (hullR f k).a, .int .i64 (hullR f k).b, .int .i64 (hullR f k).c, .int .i64 (hullR f k).d] 23) (fun _ i _ => n - (intOf i).toNat)
  case atStart =>
    refine ⟨0, Nat.zero_le _, rfl, rfl, ((Gr.refl w).alloc _).alloc _, (At.new w _ _).alloc _, ?_⟩
    have := At.new (w.alloc (.cells #[Value.int .i64 0, .int .i64 0, .int .i64 0, .int .i64 0] 23)) #[Value.int .i64 0, .int .i64 0, .int .i64 0, .int .i64 0] 23
    simp only [World.size_alloc] at this
    exact this
  case round =>
    obtain ⟨k, hk, rfl, rfl, G, R0, R1⟩ := hrel
    by_cases hlt : k < n
    · have Hs := (h.gr G) k hlt
      obtain ⟨e1, e2, e3, e4⟩ := Hs
      have hb0 := h.lt hlt
      have sp := some_spec f k
      have ss : someB f (k + 1) = if emptyB (f k).a (f k).b (f k).c (f k).d = true then someB f k else true := rfl
      have hs := hullR_succ f k
      unfold stepR at hs
      obtain ⟨V, hV⟩ : ∃ V : Rc, V = f k := ⟨_, rfl⟩
      obtain ⟨X, hX⟩ : ∃ X : Rc, X = hullR f k := ⟨_, rfl⟩
      rw [← hV] at e1 e2 e3 e4 hs ss
      rw [← hX] at hs R1 sp
      have c1 := refempty1 V.a V.b V.c V.d
      by_cases he : emptyB V.a V.b V.c V.d = true
      · rw [he] at c1
        rw [if_pos he] at hs ss
        rw [← ss]
        have HS := Lib.hid hs
        clear hs ss hV hX he sp
        go_wp2_with fail
        refine (c1 _).mono ?_
        rintro e W1 ⟨rfl, g1⟩
        replace R0 := R0.gr g1
        replace R1 := R1.gr g1
        have G1 := G.trans g1
        clear e1 e2 e3 e4 g1
        go_wp2
        refine ⟨⟨k + 1, by omega, rfl, by go_num, G1, R0, by rw [HS.out]; exact R1⟩, ?_⟩
        simp [intOf]
        omega
      · rw [if_neg he] at hs ss
        simp only [Bool.not_eq_true] at he
        rw [he] at c1
        have n1 : ¬ (w.heap.size + 1 = b) := by omega
        have n2 : ¬ (b = w.heap.size + 1) := by omega
        by_cases hsome : someB f k = true
        · have z := sp.2 hsome
          have hs' : hullR f (k + 1) = ⟨min X.a V.a, min X.b V.b, max X.c V.c, max X.d V.d⟩ := by rw [hs]; unfold joinR; rw [if_neg (by omega)]
          have HS := Lib.hid hs'
          have HT := Lib.hid ss
          rw [hsome]
          have HV := Lib.hid hV
          clear hs hs' ss hX he sp z hsome hV
          go_wp2_with fail
          refine (c1 _).mono ?_
          rintro e W1 ⟨rfl, g1⟩
          have Hs := (h.gr (G.trans g1)) k hlt
          rw [← HV.out] at Hs
          clear e1 e2 e3 e4
          obtain ⟨e1, e2, e3, e4⟩ := Hs
          replace R0 := R0.gr g1
          replace R1 := R1.gr g1
          have G1 := G.trans g1
          have k1 := R1.cell
          have f1 := R1.free
          clear g1
          go_wp2
          go_still_tail 9, (by kernel_rfl)
          go_wp2
          have R' : At ((W1.setCell ⟨w.heap.size + 1, 0, none⟩ (.int .i64 (min X.a V.a))).drew) (w.heap.size + 1) #[Value.int .i64 (min X.a V.a), .int .i64 (X.b), .int .i64 (X.c), .int .i64 (X.d)] 23 := by
            have := Go.Joins.block_setCell (i := 0) R1 (.int .i64 (min X.a V.a))
            refine At.drew ?_
            unfold At
            simpa using this
          have G' : Gr w ((W1.setCell ⟨w.heap.size + 1, 0, none⟩ (.int .i64 (min X.a V.a))).drew) := (Gr.setCell G1 (by simp) _).drew
          have Z' : At ((W1.setCell ⟨w.heap.size + 1, 0, none⟩ (.int .i64 (min X.a V.a))).drew) w.heap.size #[Value.int .i64 0, .int .i64 0, .int .i64 0, .int .i64 0] 23 := (At.far R0 (by simp) _).drew
          clear k1 f1 e1 e2 e3 e4 R1 R0 G1
          generalize ((W1.setCell ⟨w.heap.size + 1, 0, none⟩ (.int .i64 (min X.a V.a))).drew) = Y0 at R' G' Z' ⊢
          have R1 := R'
          have R0 := Z'
          have G1 := G'
          clear R' Z' G'
          have k1 := R1.cell
          have f1 := R1.free
          have Hs := (h.gr G1) k hlt
          rw [← HV.out] at Hs
          obtain ⟨e1, e2, e3, e4⟩ := Hs
          go_still_tail 9, (by kernel_rfl)
          go_wp2
          have R' : At ((Y0.setCell ⟨w.heap.size + 1, 1, none⟩ (.int .i64 (min X.b V.b))).drew) (w.heap.size + 1) #[Value.int .i64 (min X.a V.a), .int .i64 (min X.b V.b), .int .i64 (X.c), .int .i64 (X.d)] 23 := by
            have := Go.Joins.block_setCell (i := 1) R1 (.int .i64 (min X.b V.b))
            refine At.drew ?_
            unfold At
            simpa using this
          have G' : Gr w ((Y0.setCell ⟨w.heap.size + 1, 1, none⟩ (.int .i64 (min X.b V.b))).drew) := (Gr.setCell G1 (by simp) _).drew
          have Z' : At ((Y0.setCell ⟨w.heap.size + 1, 1, none⟩ (.int .i64 (min X.b V.b))).drew) w.heap.size #[Value.int .i64 0, .int .i64 0, .int .i64 0, .int .i64 0] 23 := (At.far R0 (by simp) _).drew
          clear k1 f1 e1 e2 e3 e4 R1 R0 G1
          generalize ((Y0.setCell ⟨w.heap.size + 1, 1, none⟩ (.int .i64 (min X.b V.b))).drew) = Y1 at R' G' Z' ⊢
          have R1 := R'
          have R0 := Z'
          have G1 := G'
          clear R' Z' G'
          have k1 := R1.cell
          have f1 := R1.free
          have Hs := (h.gr G1) k hlt
          rw [← HV.out] at Hs
          obtain ⟨e1, e2, e3, e4⟩ := Hs
          go_still_tail 9, (by kernel_rfl)
          go_wp2
          have R' : At ((Y1.setCell ⟨w.heap.size + 1, 2, none⟩ (.int .i64 (max X.c V.c))).drew) (w.heap.size + 1) #[Value.int .i64 (min X.a V.a), .int .i64 (min X.b V.b), .int .i64 (max X.c V.c), .int .i64 (X.d)] 23 := by
            have := Go.Joins.block_setCell (i := 2) R1 (.int .i64 (max X.c V.c))
            refine At.drew ?_
            unfold At
            simpa using this
          have G' : Gr w ((Y1.setCell ⟨w.heap.size + 1, 2, none⟩ (.int .i64 (max X.c V.c))).drew) := (Gr.setCell G1 (by simp) _).drew
          have Z' : At ((Y1.setCell ⟨w.heap.size + 1, 2, none⟩ (.int .i64 (max X.c V.c))).drew) w.heap.size #[Value.int .i64 0, .int .i64 0, .int .i64 0, .int .i64 0] 23 := (At.far R0 (by simp) _).drew
          clear k1 f1 e1 e2 e3 e4 R1 R0 G1
          generalize ((Y1.setCell ⟨w.heap.size + 1, 2, none⟩ (.int .i64 (max X.c V.c))).drew) = Y2 at R' G' Z' ⊢
          have R1 := R'
          have R0 := Z'
          have G1 := G'
          clear R' Z' G'
          have k1 := R1.cell
          have f1 := R1.free
          have Hs := (h.gr G1) k hlt
          rw [← HV.out] at Hs
          obtain ⟨e1, e2, e3, e4⟩ := Hs
          go_still_tail 9, (by kernel_rfl)
          go_wp2
          have R' : At ((Y2.setCell ⟨w.heap.size + 1, 3, none⟩ (.int .i64 (max X.d V.d))).drew) (w.heap.size + 1) #[Value.int .i64 (min X.a V.a), .int .i64 (min X.b V.b), .int .i64 (max X.c V.c), .int .i64 (max X.d V.d)] 23 := by
            have := Go.Joins.block_setCell (i := 3) R1 (.int .i64 (max X.d V.d))
            refine At.drew ?_
            unfold At
            simpa using this
          have G' : Gr w ((Y2.setCell ⟨w.heap.size + 1, 3, none⟩ (.int .i64 (max X.d V.d))).drew) := (Gr.setCell G1 (by simp) _).drew
          have Z' : At ((Y2.setCell ⟨w.heap.size + 1, 3, none⟩ (.int .i64 (max X.d V.d))).drew) w.heap.size #[Value.int .i64 0, .int .i64 0, .int .i64 0, .int .i64 0] 23 := (At.far R0 (by simp) _).drew
          clear k1 f1 e1 e2 e3 e4 R1 R0 G1
          generalize ((Y2.setCell ⟨w.heap.size + 1, 3, none⟩ (.int .i64 (max X.d V.d))).drew) = Y3 at R' G' Z' ⊢
          have R1 := R'
          have R0 := Z'
          have G1 := G'
          clear R' Z' G'
          have k1 := R1.cell
          have f1 := R1.free
          have Hs := (h.gr G1) k hlt
          rw [← HV.out] at Hs
          obtain ⟨e1, e2, e3, e4⟩ := Hs
          refine ⟨⟨k + 1, by omega, by rw [HT.out], by go_num, G1, R0, by rw [HS.out]; exact R1⟩, ?_⟩
          simp [intOf]
          omega
        · simp only [Bool.not_eq_true] at hsome
          have z := sp.1 hsome
          have hs' : hullR f (k + 1) = V := by rw [hs]; unfold joinR; rw [if_pos z]
          have HS := Lib.hid hs'
          have HT := Lib.hid ss
          rw [hsome]
          have HV := Lib.hid hV
          clear hs hs' ss hX he sp z hsome hV
          go_wp2_with fail
          refine (c1 _).mono ?_
          rintro e W1 ⟨rfl, g1⟩
          have Hs := (h.gr (G.trans g1)) k hlt
          rw [← HV.out] at Hs
          clear e1 e2 e3 e4
          obtain ⟨e1, e2, e3, e4⟩ := Hs
          replace R0 := R0.gr g1
          replace R1 := R1.gr g1
          have G1 := G.trans g1
          have k1 := R1.cell
          have f1 := R1.free
          clear g1
          go_wp2
          have R' : At (((((W1.setCell ⟨w.heap.size + 1, 0, none⟩ (.int .i64 V.a)).setCell ⟨w.heap.size + 1, 1, none⟩ (.int .i64 V.b)).setCell ⟨w.heap.size + 1, 2, none⟩ (.int .i64 V.c)).setCell ⟨w.heap.size + 1, 3, none⟩ (.int .i64 V.d))) (w.heap.size + 1) #[Value.int .i64 V.a, .int .i64 V.b, .int .i64 V.c, .int .i64 V.d] 23 := R1.put4 _ _ _ _
          have G' : Gr w (((((W1.setCell ⟨w.heap.size + 1, 0, none⟩ (.int .i64 V.a)).setCell ⟨w.heap.size + 1, 1, none⟩ (.int .i64 V.b)).setCell ⟨w.heap.size + 1, 2, none⟩ (.int .i64 V.c)).setCell ⟨w.heap.size + 1, 3, none⟩ (.int .i64 V.d))) := Gr.setCell (Gr.setCell (Gr.setCell (Gr.setCell G1 (by simp) _) (by simp) _) (by simp) _) (by simp) _
          have Z' : At (((((W1.setCell ⟨w.heap.size + 1, 0, none⟩ (.int .i64 V.a)).setCell ⟨w.heap.size + 1, 1, none⟩ (.int .i64 V.b)).setCell ⟨w.heap.size + 1, 2, none⟩ (.int .i64 V.c)).setCell ⟨w.heap.size + 1, 3, none⟩ (.int .i64 V.d))) w.heap.size #[Value.int .i64 0, .int .i64 0, .int .i64 0, .int .i64 0] 23 := At.far (At.far (At.far (At.far R0 (by simp) _) (by simp) _) (by simp) _) (by simp) _
          clear k1 f1 e1 e2 e3 e4 R1 R0 G1
          generalize (((((W1.setCell ⟨w.heap.size + 1, 0, none⟩ (.int .i64 V.a)).setCell ⟨w.heap.size + 1, 1, none⟩ (.int .i64 V.b)).setCell ⟨w.heap.size + 1, 2, none⟩ (.int .i64 V.c)).setCell ⟨w.heap.size + 1, 3, none⟩ (.int .i64 V.d))) = Y at R' G' Z' ⊢
          have R1 := R'
          have R0 := Z'
          have G1 := G'
          clear R' Z' G'
          have k1 := R1.cell
          have f1 := R1.free
          have Hs := (h.gr G1) k hlt
          rw [← HV.out] at Hs
          obtain ⟨e1, e2, e3, e4⟩ := Hs
          go_still_tail 9, (by kernel_rfl)
          go_wp2
          have R' : At ((Y.setCell ⟨w.heap.size + 1, 0, none⟩ (.int .i64 (V.a))).drew) (w.heap.size + 1) #[Value.int .i64 V.a, .int .i64 V.b, .int .i64 V.c, .int .i64 V.d] 23 := by
            have := Go.Joins.block_setCell (i := 0) R1 (.int .i64 (V.a))
            refine At.drew ?_
            unfold At
            simpa using this
          have G' : Gr w ((Y.setCell ⟨w.heap.size + 1, 0, none⟩ (.int .i64 (V.a))).drew) := (Gr.setCell G1 (by simp) _).drew
          have Z' : At ((Y.setCell ⟨w.heap.size + 1, 0, none⟩ (.int .i64 (V.a))).drew) w.heap.size #[Value.int .i64 0, .int .i64 0, .int .i64 0, .int .i64 0] 23 := (At.far R0 (by simp) _).drew
          clear k1 f1 e1 e2 e3 e4 R1 R0 G1
          generalize ((Y.setCell ⟨w.heap.size + 1, 0, none⟩ (.int .i64 (V.a))).drew) = Y0 at R' G' Z' ⊢
          have R1 := R'
          have R0 := Z'
          have G1 := G'
          clear R' Z' G'
          have k1 := R1.cell
          have f1 := R1.free
          have Hs := (h.gr G1) k hlt
          rw [← HV.out] at Hs
          obtain ⟨e1, e2, e3, e4⟩ := Hs
          go_still_tail 9, (by kernel_rfl)
          go_wp2
          have R' : At ((Y0.setCell ⟨w.heap.size + 1, 1, none⟩ (.int .i64 (V.b))).drew) (w.heap.size + 1) #[Value.int .i64 V.a, .int .i64 V.b, .int .i64 V.c, .int .i64 V.d] 23 := by
            have := Go.Joins.block_setCell (i := 1) R1 (.int .i64 (V.b))
            refine At.drew ?_
            unfold At
            simpa using this
          have G' : Gr w ((Y0.setCell ⟨w.heap.size + 1, 1, none⟩ (.int .i64 (V.b))).drew) := (Gr.setCell G1 (by simp) _).drew
          have Z' : At ((Y0.setCell ⟨w.heap.size + 1, 1, none⟩ (.int .i64 (V.b))).drew) w.heap.size #[Value.int .i64 0, .int .i64 0, .int .i64 0, .int .i64 0] 23 := (At.far R0 (by simp) _).drew
          clear k1 f1 e1 e2 e3 e4 R1 R0 G1
          generalize ((Y0.setCell ⟨w.heap.size + 1, 1, none⟩ (.int .i64 (V.b))).drew) = Y1 at R' G' Z' ⊢
          have R1 := R'
          have R0 := Z'
          have G1 := G'
          clear R' Z' G'
          have k1 := R1.cell
          have f1 := R1.free
          have Hs := (h.gr G1) k hlt
          rw [← HV.out] at Hs
          obtain ⟨e1, e2, e3, e4⟩ := Hs
          go_still_tail 9, (by kernel_rfl)
          go_wp2
          have R' : At ((Y1.setCell ⟨w.heap.size + 1, 2, none⟩ (.int .i64 (V.c))).drew) (w.heap.size + 1) #[Value.int .i64 V.a, .int .i64 V.b, .int .i64 V.c, .int .i64 V.d] 23 := by
            have := Go.Joins.block_setCell (i := 2) R1 (.int .i64 (V.c))
            refine At.drew ?_
            unfold At
            simpa using this
          have G' : Gr w ((Y1.setCell ⟨w.heap.size + 1, 2, none⟩ (.int .i64 (V.c))).drew) := (Gr.setCell G1 (by simp) _).drew
          have Z' : At ((Y1.setCell ⟨w.heap.size + 1, 2, none⟩ (.int .i64 (V.c))).drew) w.heap.size #[Value.int .i64 0, .int .i64 0, .int .i64 0, .int .i64 0] 23 := (At.far R0 (by simp) _).drew
          clear k1 f1 e1 e2 e3 e4 R1 R0 G1
          generalize ((Y1.setCell ⟨w.heap.size + 1, 2, none⟩ (.int .i64 (V.c))).drew) = Y2 at R' G' Z' ⊢
          have R1 := R'
          have R0 := Z'
          have G1 := G'
          clear R' Z' G'
          have k1 := R1.cell
          have f1 := R1.free
          have Hs := (h.gr G1) k hlt
          rw [← HV.out] at Hs
          obtain ⟨e1, e2, e3, e4⟩ := Hs
          go_still_tail 9, (by kernel_rfl)
          go_wp2
          have R' : At ((Y2.setCell ⟨w.heap.size + 1, 3, none⟩ (.int .i64 (V.d))).drew) (w.heap.size + 1) #[Value.int .i64 V.a, .int .i64 V.b, .int .i64 V.c, .int .i64 V.d] 23 := by
            have := Go.Joins.block_setCell (i := 3) R1 (.int .i64 (V.d))
            refine At.drew ?_
            unfold At
            simpa using this
          have G' : Gr w ((Y2.setCell ⟨w.heap.size + 1, 3, none⟩ (.int .i64 (V.d))).drew) := (Gr.setCell G1 (by simp) _).drew
          have Z' : At ((Y2.setCell ⟨w.heap.size + 1, 3, none⟩ (.int .i64 (V.d))).drew) w.heap.size #[Value.int .i64 0, .int .i64 0, .int .i64 0, .int .i64 0] 23 := (At.far R0 (by simp) _).drew
          clear k1 f1 e1 e2 e3 e4 R1 R0 G1
          generalize ((Y2.setCell ⟨w.heap.size + 1, 3, none⟩ (.int .i64 (V.d))).drew) = Y3 at R' G' Z' ⊢
          have R1 := R'
          have R0 := Z'
          have G1 := G'
          clear R' Z' G'
          have k1 := R1.cell
          have f1 := R1.free
          have Hs := (h.gr G1) k hlt
          rw [← HV.out] at Hs
          obtain ⟨e1, e2, e3, e4⟩ := Hs
          refine ⟨⟨k + 1, by omega, by rw [HT.out], by go_num, G1, R0, by rw [HS.out]; exact R1⟩, ?_⟩
          simp [intOf]
          omega
    · obtain rfl : k = n := by omega
      have k0 := R0.cell
      have f0 := R0.free
      have k1 := R1.cell
      go_wp2
      (try simp only [Exit.inBlock, Exit.then])
      refine bodyPost_ret (by simp [results, Try.results81, go_sem, k0]; try rfl) rfl ?_
      refine Rt.rect ⟨rfl, rfl, rfl, rfl⟩ ?_
      refine Gr.setCell (Gr.setCell (Gr.setCell (Gr.setCell G ?_ _) ?_ _) ?_ _) ?_ _ <;> simp

end Go.Proofs.Ytbhekpcjdpbahaa
