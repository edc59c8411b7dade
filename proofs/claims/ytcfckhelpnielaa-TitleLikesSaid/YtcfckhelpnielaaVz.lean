/-
  What is proved: Around of the document's package of rectangles; what numbers of 8 bits are. No conditions but bounds.
-/
import Derived.Test.YtcfckhelpnielaaVq
import Derived.Test.YtcfckhelpnielaaVi
import Derived.Laws.BytesArg
namespace Go.Proofs.Ytcfckhelpnielaa
open Go.RowKit Go.Sort Go.Shelf

/-- A number made one of 0 to m - 1. -/
def around (n m : Int) : Int := if n < 0 then (-(n + 1)) % m else n % m
theorem around_bd (n m : Int) (hm : 0 < m) : 0 ≤ around n m ∧ around n m < m := by
  unfold around
  split
  · exact ⟨Int.emod_nonneg _ (by omega), Int.emod_lt_of_pos _ hm⟩
  · exact ⟨Int.emod_nonneg _ (by omega), Int.emod_lt_of_pos _ hm⟩
theorem ret_int {k : IntKind} {a b : Int} (h : a = b) : Ending.returned (.int k a) = .returned (.int k b) := by rw [h]
set_option maxHeartbeats 400000 in
theorem around1 (n m : Int) (w : World) (hn : I64 n) (hm : 1 ≤ m ∧ m ≤ 1000000) :
    Calls Try.prog 22 #[.int .i64 n, .int .i64 m] w fun e w' => e = .returned (.int .i64 (around n m)) ∧ w = w' := by
  obtain ⟨hn1, hn2⟩ := hn
  obtain ⟨hm1, hm2⟩ := hm
  go_enter Try.func22, Try.ntmps22
  go_wp2
  all_goals
    go_ret
    refine ⟨ret_int ?_, rfl⟩
    unfold around
    first | (rw [if_pos ‹_›, ← Int.neg_tmod, Int.tmod_eq_emod_of_nonneg (by omega)]) | (rw [if_neg (by omega), Int.tmod_eq_emod_of_nonneg (by omega)]) | rw [if_pos ‹_›] | rw [if_neg (by omega)]
def U8r (n : Int) : Prop := 0 ≤ n ∧ n ≤ 255
theorem U8.of_wf {n : Int} (h : (Lit.int .u8 n).wf = true) : U8r n := by
  simp [Lit.wf, IntKind.min, IntKind.max, IntKind.bits, IntKind.signed] at h
  unfold U8r
  omega

theorem own_odd {o : Int} (h : (0 ≤ o ∧ o < 32) ∨ (128 ≤ o ∧ o < 192)) : ∃ y : Sg, sgs [o.toNat.toUInt8] = [y] ∧ okS y = false := by
  have h8 : (o.toNat.toUInt8).toNat = o.toNat := u8 o (by omega) (by omega)
  have hne : [o.toNat.toUInt8] ≠ [] := by simp
  have hd : dcL [o.toNat.toUInt8] = if o < 32 then (o.toNat, 1) else (65533, 1) := by
    unfold dcL
    rw [nb0, h8]
    unfold Lib.decodeN
    simp only [List.length_cons, List.length_nil]
    split
    · rw [if_pos (by omega)]
    · rw [if_neg (by omega), if_neg (by omega), if_neg (by omega), if_neg (by omega)]
  refine ⟨sg1 [o.toNat.toUInt8], ?_, ?_⟩
  · rw [sgs_step hne]
    congr 1
    rw [hd]
    split <;> rfl
  · unfold okS sg1
    rw [hd]
    dsimp only
    split
    · rename_i h1
      have : oddB (((o.toNat, 1) : Nat × Nat).1 : Int) = true := decide_eq_true (.inl (by dsimp only; omega))
      rw [this]; rfl
    · simp [isBad]

theorem conv1 (w : World) (x : Int) (_ : 0 ≤ x) (_ : x ≤ 255) : (convert 37 9 (.slice (some ⟨w.heap.size, 0, none⟩) 1 1)).run Try.prog (w.alloc (.cells #[.int .u8 x] 5)) = .ok (.string (bs [x.toNat.toUInt8])) (w.alloc (.cells #[.int .u8 x] 5)) := by
  have X := At.new w #[.int .u8 x] 5
  refine run_convert_bytes_arg (P := Try.prog) _ 37 5 Try.underlying37 Try.underlying5 w.heap.size 0 1 1 [x] rfl (fun i hi => ?_) 9 Try.underlying9
  rw [Nat.zero_add, X.cell i]
  obtain rfl : i = 0 := by simpa using hi
  rfl

theorem conv2 (w : World) (x : Int) (h0 : 0 ≤ x) (h1 : x ≤ 255) (a : Array Value) (t : TypeId) : (convert 37 9 (.slice (some ⟨w.heap.size + 1, 0, none⟩) 1 1)).run Try.prog ((w.alloc (.cells a t)).alloc (.cells #[.int .u8 x] 5)) = .ok (.string (bs [x.toNat.toUInt8])) ((w.alloc (.cells a t)).alloc (.cells #[.int .u8 x] 5)) := by
  have h := conv1 (w.alloc (.cells a t)) x h0 h1
  rw [show (w.alloc (.cells a t)).heap.size = w.heap.size + 1 by simp] at h
  exact h

end Go.Proofs.Ytcfckhelpnielaa
