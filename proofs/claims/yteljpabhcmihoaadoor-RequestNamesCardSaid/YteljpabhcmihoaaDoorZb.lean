/-
  What is proved: what Good makes of any request may be, with no more than its Op has. No program.
-/
import Derived.Test.YteljpabhcmihoaaDoorZa
namespace Go.Proofs.YteljpabhcmihoaaDoor

theorem may_id {o i : Int} (ho : 0 ≤ o ∧ o ≤ 18) (hi : (o = 18 ∧ i = 0) ∨ (o ≠ 18 ∧ 1 ≤ i ∧ i ≤ 9)) : idB o i = true := by
  unfold idB
  rw [Bool.and_eq_true, mayM_iff]
  refine ⟨⟨⟨by show 0 ≤ o; omega, by show o ≤ 255; omega⟩, ⟨by show 0 ≤ i; omega, by show i ≤ 4294967295; omega⟩, by simp⟩, ?_⟩
  rcases hi with ⟨h1, h2⟩ | ⟨h1, h2, h3⟩
  · rw [h1, h2]; rfl
  · rw [decide_eq_false (show ¬ i = 0 by omega), decide_eq_false h1]; rfl
theorem btw_t {l t n : Int} (h0 : l ≤ n) (h1 : n ≤ t) : btw l t n = true := by
  unfold btw; rw [decide_eq_true h0, decide_eq_true h1]; rfl
theorem good_okQ (o i : Int) (r : Rq) (ho : 0 ≤ o ∧ o ≤ 18) (hi : (o = 18 ∧ i = 0) ∨ (o ≠ 18 ∧ 1 ≤ i ∧ i ≤ 9)) : OkQ (goodO o i r) := by
  have hid := may_id ho hi
  have hob : (goodO o i r).op = o ∧ (goodO o i r).id = i := by
    unfold goodO
    repeat' split
    all_goals exact ⟨rfl, rfl⟩
  have ar := fun n m hm => around_bd n m hm
  have hc : o = 0 ∨ o = 1 ∨ o = 2 ∨ o = 3 ∨ o = 4 ∨ o = 5 ∨ o = 6 ∨ o = 7 ∨ o = 8 ∨ o = 9 ∨ o = 10 ∨ o = 11 ∨ o = 12 ∨ o = 13 ∨ o = 14 ∨ o = 15 ∨ o = 16 ∨ o = 17 ∨ o = 18 := by omega
  have may : ∀ b, argB (goodO o i r) = b → b = true → mayQ (goodO o i r) = true := by
    intro b h1 h2
    unfold mayQ
    rw [hob.1, hob.2, hid, h1, h2]; rfl
  have sm : ∀ x : Int, -1000000 ≤ x → x ≤ 1000000 → small x := fun x h1 h2 => by unfold small; omega
  have sR : mayB (smallR r.x0 r.y0 r.x1 r.y1).a (smallR r.x0 r.y0 r.x1 r.y1).b (smallR r.x0 r.y0 r.x1 r.y1).c (smallR r.x0 r.y0 r.x1 r.y1).d = true ∧
      OkL [114] [vR (smallR r.x0 r.y0 r.x1 r.y1).a (smallR r.x0 r.y0 r.x1 r.y1).b (smallR r.x0 r.y0 r.x1 r.y1).c (smallR r.x0 r.y0 r.x1 r.y1).d] := by
    have a0 := ar r.x0 24 (by omega)
    have a1 := ar r.y0 24 (by omega)
    have a2 := ar r.x1 13 (by omega)
    have a3 := ar r.y1 13 (by omega)
    unfold smallR
    dsimp only
    refine ⟨by unfold mayB; rw [decide_eq_true_iff]; omega, .cons (okR (sm _ ?_ ?_) (sm _ ?_ ?_) (sm _ ?_ ?_) (sm _ ?_ ?_)) .nil⟩ <;> omega
  have place : ∀ n : Int, btw (-1048576) 1048576 (around n 40 - 10) = true ∧ okA 105 (vI (around n 40 - 10)) := fun n => by
    have := ar n 40 (by omega)
    exact ⟨btw_t (by omega) (by omega), okI (sm _ (by omega) (by omega))⟩
  have ten : okA 117 (vI (around r.a 10)) := by have := ar r.a 10 (by omega); exact okU (by omega) (by omega)
  rcases hc with rfl | rfl | rfl | rfl | rfl | rfl | rfl | rfl | rfl | rfl | rfl | rfl | rfl | rfl | rfl | rfl | rfl | rfl | rfl
  · have a := ar r.a 16 (by omega)
    have b := ar r.b 16 (by omega)
    exact ⟨by rw [hob.1]; exact ho, may (btw 1 256 (1 + around r.a 16) && btw 1 256 (1 + around r.b 16)) rfl (by rw [btw_t (by omega) (by omega), btw_t (by omega) (by omega)]; rfl), show OkL [117, 117] [vI (1 + around r.a 16), vI (1 + around r.b 16)] from .cons (okU (by omega) (by omega)) (.cons (okU (by omega) (by omega)) .nil), rfl⟩
  · exact ⟨by rw [hob.1]; exact ho, may true rfl rfl, .nil, rfl⟩
  · have a := ar r.x0 8 (by omega)
    have b := ar r.y0 8 (by omega)
    have c := ar r.x1 4 (by omega)
    have d := ar r.y1 4 (by omega)
    refine ⟨by rw [hob.1]; exact ho, may (mayB (around r.x0 8) (around r.y0 8) (around r.x0 8 + 1 + around r.x1 4) (around r.y0 8 + 1 + around r.y1 4) && !emptyB (around r.x0 8) (around r.y0 8) (around r.x0 8 + 1 + around r.x1 4) (around r.y0 8 + 1 + around r.y1 4)) rfl ?_, show OkL [114, 98] [vR (around r.x0 8) (around r.y0 8) (around r.x0 8 + 1 + around r.x1 4) (around r.y0 8 + 1 + around r.y1 4), vB (r.d.take 64)] from .cons (okR (sm _ ?_ ?_) (sm _ ?_ ?_) (sm _ ?_ ?_) (sm _ ?_ ?_)) (.cons (okB ?_) .nil), rfl⟩
    · unfold mayB emptyB
      rw [decide_eq_true (by omega), decide_eq_false (by omega)]; rfl
    all_goals first | (show (r.d.take 64).length ≤ 64; rw [List.length_take]; omega) | omega
  · exact ⟨by rw [hob.1]; exact ho, may true rfl rfl, .nil, rfl⟩
  · exact ⟨by rw [hob.1]; exact ho, may true rfl rfl, .nil, rfl⟩
  · exact ⟨by rw [hob.1]; exact ho, may true rfl rfl, .cons ten .nil, rfl⟩
  · exact ⟨by rw [hob.1]; exact ho, may _ rfl sR.1, sR.2, rfl⟩
  · exact ⟨by rw [hob.1]; exact ho, may (btw (-1048576) 1048576 (around r.a 40 - 10) && btw (-1048576) 1048576 (around r.b 40 - 10)) rfl (by rw [(place _).1, (place _).1]; rfl), .cons (place _).2 (.cons (place _).2 .nil), rfl⟩
  · exact ⟨by rw [hob.1]; exact ho, may true rfl rfl, .cons ten .nil, rfl⟩
  · exact ⟨by rw [hob.1]; exact ho, may true rfl rfl, .nil, rfl⟩
  · have a := ar r.a 3 (by omega)
    exact ⟨by rw [hob.1]; exact ho, may (btw 1 8 (1 + around r.a 3)) rfl (btw_t (by omega) (by omega)), show OkL [117] [vI (1 + around r.a 3)] from .cons (okU (by omega) (by omega)) .nil, rfl⟩
  · exact ⟨by rw [hob.1]; exact ho, may _ rfl sR.1, sR.2, rfl⟩
  · exact ⟨by rw [hob.1]; exact ho, may _ rfl sR.1, sR.2, rfl⟩
  · have a := ar r.a 256 (by omega)
    exact ⟨by rw [hob.1]; exact ho, may (btw 0 255 (around r.a 256)) rfl (btw_t (by omega) (by omega)), show OkL [117] [vI (around r.a 256)] from .cons (okU (by omega) (by omega)) .nil, rfl⟩
  · have hok := sgs_ok (r.s.data.toList.take 20)
    have hl := clX20 (r.s.data.toList.take 20) (by rw [List.length_take]; omega)
    exact ⟨by rw [hob.1]; exact ho, may (mayX (sgs (bs (clX (sgs (r.s.data.toList.take 20)))).data.toList)) rfl (by rw [bs_list]; exact clX_may hok), show OkL [115] [vS (bs (clX (sgs (r.s.data.toList.take 20))))] from .cons (okS1 (by rw [bs_size]; omega)) .nil, rfl⟩
  · exact ⟨by rw [hob.1]; exact ho, may true rfl rfl, .cons ten .nil, rfl⟩
  · exact ⟨by rw [hob.1]; exact ho, may true rfl rfl, .nil, rfl⟩
  · exact ⟨by rw [hob.1]; exact ho, may (btw (-1048576) 1048576 (around r.a 40 - 10) && btw (-1048576) 1048576 (around r.b 40 - 10)) rfl (by rw [(place _).1, (place _).1]; rfl), .cons (place _).2 (.cons (place _).2 .nil), rfl⟩
  · exact ⟨by rw [hob.1]; exact ho, may (btw (-1048576) 1048576 (around r.a 40 - 10) && btw (-1048576) 1048576 (around r.b 40 - 10)) rfl (by rw [(place _).1, (place _).1]; rfl), .cons (place _).2 (.cons (place _).2 .nil), rfl⟩
theorem goodQ_ok (r : Rq) : OkQ (goodQ r) := by
  have h := around_bd r.op 19 (by omega)
  have h' := around_bd r.id 9 (by omega)
  refine good_okQ _ _ r (by omega) ?_
  unfold goodI
  split
  · exact .inl ⟨by assumption, rfl⟩
  · exact .inr ⟨by assumption, by omega, by omega⟩
theorem goodQ_d (r : Rq) : (goodQ r).d = [] ∨ (goodQ r).d = r.d.take 64 := by
  unfold goodQ goodO
  repeat' split
  all_goals first | exact .inl rfl | exact .inr rfl
theorem goodQ_op (r : Rq) : (goodQ r).op = around r.op 19 ∧ (goodQ r).id = goodI r := by
  unfold goodQ goodO
  repeat' split
  all_goals exact ⟨rfl, rfl⟩
/-- Texts that are read are no longer than what they are read of. -/
theorem tx_size (b : List Int) : (tx b).size = b.length := by unfold tx; simp [ByteArray.size]
theorem gv_s (c : UInt8) (b : List Int) : (gv c b).s.size ≤ b.length := by
  unfold gv
  split
  · exact Nat.zero_le _
  · split
    · exact Nat.zero_le _
    · split
      · show (tx _).size ≤ _
        rw [tx_size, List.length_take, List.length_drop]; omega
      · split
        · exact Nat.zero_le _
        · exact Nat.zero_le _
theorem unA_s : ∀ (f : List UInt8) (X : List Av) (b : List Int) (N : Nat), b.length ≤ N → (∀ v ∈ X, v.s.size ≤ N) → ∀ v ∈ (unA X f b).1, v.s.size ≤ N
  | [], X, b, N, _, h => by
    unfold unA
    split
    · exact h
    · intro v hv; simp at hv
  | c :: f, X, b, N, hb, h => by
    unfold unA
    split
    · intro v hv; simp at hv
    · refine unA_s f _ _ N (by rw [List.length_drop]; omega) fun v hv => ?_
      rcases List.mem_append.1 hv with hv | hv
      · exact h v hv
      · simp at hv; subst hv; exact Nat.le_trans (gv_s c b) hb
theorem unR_s (f : List UInt8) (b : List Int) (N : Nat) (h : b.length ≤ N) : ∀ v ∈ (unR f b).1, v.s.size ≤ N := by
  unfold unR
  split
  · exact unA_s f [] b N h fun v hv => by simp at hv
  · intro v hv; simp at hv
theorem gv_b0 (c : UInt8) : (gv c []).b = [] := by
  unfold gv
  repeat' split
  all_goals rfl
theorem unA_b0 : ∀ (f : List UInt8) (X : List Av), (∀ v ∈ X, v.b = []) → ∀ v ∈ (unA X f []).1, v.b = []
  | [], X, h => by
    unfold unA
    split
    · exact h
    · intro v hv; simp at hv
  | c :: f, X, h => by
    unfold unA
    split
    · intro v hv; simp at hv
    · rw [List.drop_nil]
      refine unA_b0 f _ fun v hv => ?_
      rcases List.mem_append.1 hv with hv | hv
      · exact h v hv
      · simp at hv; subst hv; exact gv_b0 c
theorem unR_b0 (f : List UInt8) : ∀ v ∈ (unR f []).1, v.b = [] := by
  unfold unR
  split
  · exact unA_b0 f [] fun v hv => by simp at hv
  · intro v hv; simp at hv
theorem setA_s {r : Rq} {N : Nat} (h : r.s.size ≤ N) (i : Nat) {v : Av} (hv : v.s.size ≤ N) : (setA r i v).s.size ≤ N := by
  unfold setA
  split
  · split <;> exact h
  · split
    · exact hv
    · split <;> exact h
theorem setL_s : ∀ (l : List Av) (r : Rq) (i N : Nat), r.s.size ≤ N → (∀ v ∈ l, v.s.size ≤ N) → (setL r i l).s.size ≤ N
  | [], r, i, N, h, _ => h
  | v :: l, r, i, N, h, hl => setL_s l _ _ N (setA_s h i (hl v (by simp))) fun u hu => hl u (by simp [hu])
theorem setA_id (r : Rq) (i : Nat) (v : Av) : (setA r i v).op = r.op ∧ (setA r i v).id = r.id := by
  unfold setA
  split
  · split <;> exact ⟨rfl, rfl⟩
  · split
    · exact ⟨rfl, rfl⟩
    · split <;> exact ⟨rfl, rfl⟩
theorem setL_id : ∀ (l : List Av) (r : Rq) (i : Nat), (setL r i l).op = r.op ∧ (setL r i l).id = r.id
  | [], r, i => ⟨rfl, rfl⟩
  | v :: l, r, i => by
    have h := setL_id l (setA r i v) (i + 1)
    have h' := setA_id r i v
    exact ⟨h.1.trans h'.1, h.2.trans h'.2⟩

end Go.Proofs.YteljpabhcmihoaaDoor
