/-
  What is proved: what a range over spans comes to, where each row's number is told.
-/
import Derived.Test.YtmaondghfncjoaaIs
import Derived.Test.YtmaondghfncjoaaRx
namespace Go.Proofs.Ytmaondghfncjoaa
open Go.RowKit Go.Sort Go.Shelf

attribute [local go_sem] Oper.semAt_some

set_option maxRecDepth 100000 in
set_option maxHeartbeats 2000000 in
theorem spansIterN (n : Nat) (hn : 1 ≤ n) (l Bm Br tm tr pm pc W H N C x0 x1 y0 y1 : Nat) (J Jx : List (Fin H) → World → Prop) (hx : y0 < y1 → x0 < x1) (hw : x1 ≤ W) (hy : y0 ≤ y1) (hh : y1 ≤ H)
    (hA : ∀ pre A B, J pre A → A.grownBy B none → J pre B)
    (hY : ∀ pre y W1, J pre W1 → pre.length < y1 - y0 → y.1 = y0 + pre.length → YieldAt Fence.wide (n - 1) Try.prog l (rowV pc W C x0 x1 y) W1 fun e W' =>
      (e = .returned (.bool true) ∧ J (pre ++ [y]) W' ∧ Keep3 pm Bm Br W1 W') ∨ (e = .returned (.bool false) ∧ Jx (pre ++ [y]) W'))
    (V : World) (hd : At V pm #[.int .i64 W, .int .i64 H, .slice (some ⟨pc, 0, none⟩) N C] 76) (hC : N ≤ C) (hl : N = W * H) (hW : W ≤ 256) (hH : H ≤ 256) (hbm : At V Bm #[.pointer (some ⟨pm, 0, none⟩)] tm) (hbr : At V Br #[.int .i64 x0, .int .i64 y0, .int .i64 x1, .int .i64 y1] tr) (h0 : J [] V) :
    CallsIn Fence.wide n Try.prog 55 #[.func (.yield l) #[] #[], .pointer (some ⟨Br, 0, none⟩), .pointer (some ⟨Bm, 0, none⟩)] V fun e W' => (∃ v, e = .returned v) ∧
      ((∃ ys : List (Fin H), ys.map (·.1) = List.range' y0 (y1 - y0) ∧ J ys W') ∨ (∃ pre : List (Fin H), pre.map (·.1) <+: List.range' y0 (y1 - y0) ∧ Jx pre W')) := by
  refine callsIn_of_wp Try.func55 rfl trivial ?_ rfl
  simp only [Try.ntmps55, List.size_toArray, List.length_cons, List.length_nil, Nat.reduceAdd, Nat.reduceSub, Array.replicate_succ, Array.replicate_zero, List.push_toArray, List.append_toArray, List.nil_append, List.cons_append]
  have b1 : V.cell? ⟨Br, 1, none⟩ = some (.int .i64 y0) := hbr.cell 1
  gi_wp2
  clear b1
  gi_loopw [4] (fun i wr => ∃ (y : Nat) (pre : List (Fin H)), y0 ≤ y ∧ y ≤ y1 ∧ i = .int .i64 y ∧ pre.map (·.1) = List.range' y0 (y - y0) ∧ J pre wr ∧ Keep3 pm Bm Br V wr)
    (fun i _ => y1 - (intOf i).toNat)
  case atStart => exact ⟨y0, [], Nat.le_refl _, hy, rfl, by simp, h0, Keep3.refl _ _ _ _⟩
  case round =>
    obtain ⟨y, pre, hy0, hy1, rfl, hpre, hJ, hK⟩ := hrel
    have R := hbr.same hK.2.2
    have M := hbm.same hK.2.1
    have D := hd.same hK.1
    have r0 : wr.cell? ⟨Br, 0, none⟩ = some (.int .i64 x0) := R.cell 0
    have r2 : wr.cell? ⟨Br, 2, none⟩ = some (.int .i64 x1) := R.cell 2
    have r3 : wr.cell? ⟨Br, 3, none⟩ = some (.int .i64 y1) := R.cell 3
    have m0 : wr.cell? ⟨Bm, 0, none⟩ = some (.pointer (some ⟨pm, 0, none⟩)) := M.cell 0
    have hlen : pre.length = y - y0 := by have := congrArg List.length hpre; simpa using this
    by_cases hlt : y < y1
    · have cs := span0 wr D hC hl hW hH y x0 x1 (by omega) (hx (by omega)) hw
      obtain ⟨v, hv⟩ : ∃ v, v = Value.slice (some ⟨pc, y * W + x0, none⟩) (x1 - x0) (C - (y * W + x0)) := ⟨_, rfl⟩
      have rv : rowV pc W C x0 x1 (⟨y, by omega⟩ : Fin H) = #[.int .i64 y, v] := by rw [hv]; rfl
      rw [← hv] at cs
      clear hv
      have hYY := fun q => hY pre ⟨y, by omega⟩ (wr.drewN q) (hA _ _ _ hJ ((Gr.refl wr).drewN q |>.by none)) (by omega) (show y = y0 + pre.length by omega)
      rw [rv] at hYY
      have hpre' := Lib.hid hpre
      clear hpre rv hY
      have hlen' := Lib.hid hlen
      clear hlen
      gi_wp2_with (refine ⟨trivial, ?_⟩; gi_at_call 41; refine (callsIn_wide.2 cs).mono ?_; rintro e w' ⟨rfl, q, rfl⟩; obtain ⟨fn, tmps, assign, body, hyy, hR⟩ := hYY q)
      refine hR.mono ?_
      rintro e W3 (⟨rfl, hJ3, hk3⟩ | ⟨rfl, hJx3⟩)
      · gi_wp2
        go_roundw
        case rel => exact ⟨y + 1, pre ++ [⟨y, by omega⟩], by omega, by omega, by simp, by rw [List.map_append, hpre'.out, show y + 1 - y0 = (y - y0) + 1 by omega, range'_succ_snoc]; simp; omega, hJ3, hK.trans hk3⟩
        case measure => simp [intOf]; omega
      · gi_wp2
        refine bodyPost_ret (results_none rfl _ _ _) rfl ?_
        refine ⟨⟨_, rfl⟩, .inr ⟨pre ++ [⟨y, by omega⟩], ?_, hJx3⟩⟩
        rw [List.map_append, hpre'.out]
        refine ⟨List.range' (y + 1) (y1 - (y + 1)), ?_⟩
        rw [show y1 - y0 = (y - y0) + (1 + (y1 - (y + 1))) by omega, ← List.range'_append_1, ← List.range'_append_1]
        simp
        omega
    · obtain rfl : y = y1 := by omega
      gi_wp2
      go_end0
      exact ⟨⟨_, rfl⟩, .inl ⟨pre, hpre, hJ⟩⟩

theorem spansRuns (Bm Br tm tr pm pc W H N C x0 x1 y0 y1 : Nat) (hx : y0 < y1 → x0 < x1) (hw : x1 ≤ W) (hy : y0 ≤ y1) (hh : y1 ≤ H)
    (V : World) (hd : At V pm #[.int .i64 W, .int .i64 H, .slice (some ⟨pc, 0, none⟩) N C] 76) (hC : N ≤ C) (hl : N = W * H) (hW : W ≤ 256) (hH : H ≤ 256) (hbm : At V Bm #[.pointer (some ⟨pm, 0, none⟩)] tm) (hbr : At V Br #[.int .i64 x0, .int .i64 y0, .int .i64 x1, .int .i64 y1] tr) :
    Runs 7 Try.prog 55 #[.pointer (some ⟨Br, 0, none⟩), .pointer (some ⟨Bm, 0, none⟩)] (fun y : Fin H => rowV pc W C x0 x1 y) (fun pre y _ => y.1 = y0 + pre.length) (fun _ k => k = pm ∨ k = Bm ∨ k = Br)
      (fun ys => ys.map (·.1) = List.range' y0 (y1 - y0)) V := by
  intro l J hJ hY h0
  have lm := hd.lt
  have lb := hbm.lt
  have lr := hbr.lt
  refine (spansIterN 7 (by omega) l Bm Br tm tr pm pc W H N C x0 x1 y0 y1 (fun pre A => J pre A ∧ V.heap.size ≤ A.heap.size) (fun _ _ => False) hx hw hy hh
    (fun pre A B h hg => ⟨hJ pre A B none h.1 hg (by simp), Nat.le_trans h.2 hg.size⟩) (fun pre y W1 h hlt hp => ?_) V hd hC hl hW hH hbm hbr ⟨h0, Nat.le_refl _⟩).mono ?_
  · obtain ⟨h, hs⟩ := h
    refine YieldAt.mono (hY pre y W1 h hp) ?_
    rintro e W' ⟨rfl, h1, h2⟩
    exact .inl ⟨rfl, ⟨h1, Nat.le_trans hs h2.size⟩, h2.same _ (by omega) (.inl rfl), h2.same _ (by omega) (.inr (.inl rfl)), h2.same _ (by omega) (.inr (.inr rfl))⟩
  · rintro e W' ⟨hv, (⟨ys, h1, h2, _⟩ | ⟨_, _, h⟩)⟩
    · exact ⟨hv, ys, h1, h2⟩
    · exact h.elim

end Go.Proofs.Ytmaondghfncjoaa
