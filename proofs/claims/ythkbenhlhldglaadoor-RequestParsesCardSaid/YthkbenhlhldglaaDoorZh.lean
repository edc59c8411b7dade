/-
  What is proved: what find of package request tells of each Op; what the document's Names and Forms hand back. No conditions but bounds.
-/
import Derived.Test.YthkbenhlhldglaaDoorZe
import Derived.Test.YthkbenhlhldglaaDoorZf
namespace Go.Proofs.YthkbenhlhldglaaDoor
open Go.RowKit Go.Sort
attribute [local go_sem] run_store_nf run_store_fn

theorem ix57 (w : World) : ∀ n : Nat, n < 19 → (Instr.index 131 (.agg #[.string ⟨#[98, 117, 102, 102, 101, 114]⟩, .string ⟨#[117, 117]⟩, .func (.func 91) #[] #[], .string ⟨#[117, 110, 98, 117, 102, 102, 101, 114]⟩, .string ⟨#[]⟩, .func (.func 92) #[] #[], .string ⟨#[119, 114, 105, 116, 101]⟩, .string ⟨#[114, 98]⟩, .func (.func 93) #[] #[], .string ⟨#[115, 117, 114, 102, 97, 99, 101]⟩, .string ⟨#[]⟩, .func (.func 92) #[] #[], .string ⟨#[117, 110, 115, 117, 114, 102, 97, 99, 101]⟩, .string ⟨#[]⟩, .func (.func 92) #[] #[], .string ⟨#[97, 116, 116, 97, 99, 104]⟩, .string ⟨#[117]⟩, .func (.func 92) #[] #[], .string ⟨#[100, 97, 109, 97, 103, 101]⟩, .string ⟨#[114]⟩, .func (.func 94) #[] #[], .string ⟨#[109, 111, 118, 101]⟩, .string ⟨#[105, 105]⟩, .func (.func 95) #[] #[], .string ⟨#[114, 97, 105, 115, 101]⟩, .string ⟨#[117]⟩, .func (.func 92) #[] #[], .string ⟨#[108, 111, 119, 101, 114]⟩, .string ⟨#[]⟩, .func (.func 92) #[] #[], .string ⟨#[115, 99, 97, 108, 101]⟩, .string ⟨#[117]⟩, .func (.func 96) #[] #[], .string ⟨#[99, 108, 105, 112]⟩, .string ⟨#[114]⟩, .func (.func 94) #[] #[], .string ⟨#[111, 112, 97, 113, 117, 101]⟩, .string ⟨#[114]⟩, .func (.func 94) #[] #[], .string ⟨#[102, 97, 100, 101]⟩, .string ⟨#[117]⟩, .func (.func 97) #[] #[], .string ⟨#[116, 105, 116, 108, 101]⟩, .string ⟨#[115]⟩, .func (.func 98) #[] #[], .string ⟨#[102, 114, 97, 109, 101]⟩, .string ⟨#[117]⟩, .func (.func 92) #[] #[], .string ⟨#[99, 111, 109, 109, 105, 116]⟩, .string ⟨#[]⟩, .func (.func 92) #[] #[], .string ⟨#[99, 117, 114, 115, 111, 114]⟩, .string ⟨#[105, 105]⟩, .func (.func 95) #[] #[], .string ⟨#[112, 111, 105, 110, 116]⟩, .string ⟨#[105, 105]⟩, .func (.func 95) #[] #[]]) (.int .i64 n)).run Tryd.prog w = .ok (.agg #[.string (nmS n), .string (fmS n), .func (.func (mayF n)) #[] #[]]) w
  | 0, _ => by kernel_rfl
  | 1, _ => by kernel_rfl
  | 2, _ => by kernel_rfl
  | 3, _ => by kernel_rfl
  | 4, _ => by kernel_rfl
  | 5, _ => by kernel_rfl
  | 6, _ => by kernel_rfl
  | 7, _ => by kernel_rfl
  | 8, _ => by kernel_rfl
  | 9, _ => by kernel_rfl
  | 10, _ => by kernel_rfl
  | 11, _ => by kernel_rfl
  | 12, _ => by kernel_rfl
  | 13, _ => by kernel_rfl
  | 14, _ => by kernel_rfl
  | 15, _ => by kernel_rfl
  | 16, _ => by kernel_rfl
  | 17, _ => by kernel_rfl
  | 18, _ => by kernel_rfl
  | n + 19, h => absurd h (by omega)
theorem nlt0 (n : Nat) : ¬ (n : Int) < 0 := by omega
set_option maxRecDepth 100000 in
set_option maxHeartbeats 2000000 in
theorem find1 (n : Nat) (h : n < 19) (w : World) : Calls Tryd.prog 48 #[.int .i64 n] w (Rt w (.tuple #[.agg #[.string (nmS n), .string (fmS n), .func (.func (mayF n)) #[] #[]], .bool true])) := by
  have ix := fun V => ix57 V n h
  have c1 := fun V => ops1 V
  have h1 : ¬ (n : Int) < 0 := by omega
  have h2 : ¬ 19 ≤ (n : Int) := by omega
  generalize nmS n = N at *
  generalize fmS n = F at *
  generalize mayF n = g at *
  generalize (.agg #[.string ⟨#[98, 117, 102, 102, 101, 114]⟩, .string ⟨#[117, 117]⟩, .func (.func 91) #[] #[], .string ⟨#[117, 110, 98, 117, 102, 102, 101, 114]⟩, .string ⟨#[]⟩, .func (.func 92) #[] #[], .string ⟨#[119, 114, 105, 116, 101]⟩, .string ⟨#[114, 98]⟩, .func (.func 93) #[] #[], .string ⟨#[115, 117, 114, 102, 97, 99, 101]⟩, .string ⟨#[]⟩, .func (.func 92) #[] #[], .string ⟨#[117, 110, 115, 117, 114, 102, 97, 99, 101]⟩, .string ⟨#[]⟩, .func (.func 92) #[] #[], .string ⟨#[97, 116, 116, 97, 99, 104]⟩, .string ⟨#[117]⟩, .func (.func 92) #[] #[], .string ⟨#[100, 97, 109, 97, 103, 101]⟩, .string ⟨#[114]⟩, .func (.func 94) #[] #[], .string ⟨#[109, 111, 118, 101]⟩, .string ⟨#[105, 105]⟩, .func (.func 95) #[] #[], .string ⟨#[114, 97, 105, 115, 101]⟩, .string ⟨#[117]⟩, .func (.func 92) #[] #[], .string ⟨#[108, 111, 119, 101, 114]⟩, .string ⟨#[]⟩, .func (.func 92) #[] #[], .string ⟨#[115, 99, 97, 108, 101]⟩, .string ⟨#[117]⟩, .func (.func 96) #[] #[], .string ⟨#[99, 108, 105, 112]⟩, .string ⟨#[114]⟩, .func (.func 94) #[] #[], .string ⟨#[111, 112, 97, 113, 117, 101]⟩, .string ⟨#[114]⟩, .func (.func 94) #[] #[], .string ⟨#[102, 97, 100, 101]⟩, .string ⟨#[117]⟩, .func (.func 97) #[] #[], .string ⟨#[116, 105, 116, 108, 101]⟩, .string ⟨#[115]⟩, .func (.func 98) #[] #[], .string ⟨#[102, 114, 97, 109, 101]⟩, .string ⟨#[117]⟩, .func (.func 92) #[] #[], .string ⟨#[99, 111, 109, 109, 105, 116]⟩, .string ⟨#[]⟩, .func (.func 92) #[] #[], .string ⟨#[99, 117, 114, 115, 111, 114]⟩, .string ⟨#[105, 105]⟩, .func (.func 95) #[] #[], .string ⟨#[112, 111, 105, 110, 116]⟩, .string ⟨#[105, 105]⟩, .func (.func 95) #[] #[]] : Value) = ops at *
  go_enter Tryd.func48, Tryd.ntmps48
  go_wp2_with fail
  refine (c1 _).mono ?_
  rintro e w1 ⟨rfl, g1⟩
  have X := (At.new w #[.string ⟨#[]⟩, .string ⟨#[]⟩, .nilFunc] 97).gr g1
  have k0 : w1.cell? ⟨w.heap.size, 0, none⟩ = some (.string ⟨#[]⟩) := (X.cell 0).trans rfl
  have k1 : w1.cell? ⟨w.heap.size, 1, none⟩ = some (.string ⟨#[]⟩) := (X.cell 1).trans rfl
  have k2 : w1.cell? ⟨w.heap.size, 2, none⟩ = some .nilFunc := (X.cell 2).trans rfl
  have f0 : w1.frozen? ⟨w.heap.size, 0, none⟩ = false := X.free 0
  have f1 : w1.frozen? ⟨w.heap.size, 1, none⟩ = false := X.free 1
  have f2 : w1.frozen? ⟨w.heap.size, 2, none⟩ = false := X.free 2
  go_wp2
  have G : Gr w w1 := ((Gr.refl w).alloc _).trans g1
  have G3 := ((G.setCell (p := ⟨w.heap.size, 0, none⟩) (Nat.le_refl _) (.string N)).setCell (p := ⟨w.heap.size, 1, none⟩) (Nat.le_refl _) (.string F)).setCell (p := ⟨w.heap.size, 2, none⟩) (Nat.le_refl _) (.func (.func g) #[] #[])
  have Y := ((X.put 0 (.string N)).put 1 (.string F)).put 2 (.func (.func g) #[] #[])
  clear k0 k1 k2 f0 f1 f2 X
  generalize ((w1.setCell ⟨w.heap.size, 0, none⟩ (.string N)).setCell ⟨w.heap.size, 1, none⟩ (.string F)).setCell ⟨w.heap.size, 2, none⟩ (.func (.func g) #[] #[]) = V at *
  have d0 : V.cell? ⟨w.heap.size, 0, none⟩ = some (.string N) := (Y.cell 0).trans rfl
  have d1 : V.cell? ⟨w.heap.size, 1, none⟩ = some (.string F) := (Y.cell 1).trans rfl
  have d2 : V.cell? ⟨w.heap.size, 2, none⟩ = some (.func (.func g) #[] #[]) := (Y.cell 2).trans rfl
  exact bodyPost_ret (v := .tuple #[.agg #[.string N, .string F, .func (.func g) #[] #[]], .bool true]) (by simp [results, Tryd.results48, go_sem, d0, d1, d2]) rfl ⟨rfl, G3⟩
def formsC : Array Value := #[.string (fmS 0), .string (fmS 1), .string (fmS 2), .string (fmS 3), .string (fmS 4), .string (fmS 5), .string (fmS 6), .string (fmS 7), .string (fmS 8), .string (fmS 9), .string (fmS 10), .string (fmS 11), .string (fmS 12), .string (fmS 13), .string (fmS 14), .string (fmS 15), .string (fmS 16), .string (fmS 17), .string (fmS 18)]
set_option maxRecDepth 100000 in
set_option maxHeartbeats 2000000 in
theorem forms1 (w : World) : Calls Tryd.prog 41 #[] w (fun e w' => e = .returned (.slice (some ⟨w.heap.size, 0, none⟩) 19 19) ∧ At w' w.heap.size formsC 9 ∧ Gr w w') := by
  go_enter Tryd.func41, Tryd.ntmps41
  go_wp2
  go_ret
  exact ⟨rfl, At.new w formsC _, (Gr.refl w).alloc _⟩
def namesC : Array Value := #[.string (nmS 0), .string (nmS 1), .string (nmS 2), .string (nmS 3), .string (nmS 4), .string (nmS 5), .string (nmS 6), .string (nmS 7), .string (nmS 8), .string (nmS 9), .string (nmS 10), .string (nmS 11), .string (nmS 12), .string (nmS 13), .string (nmS 14), .string (nmS 15), .string (nmS 16), .string (nmS 17), .string (nmS 18)]
theorem formsC_at : ∀ n : Nat, n < 19 → formsC[n]? = some (.string (fmS n))
  | 0, _ => rfl
  | 1, _ => rfl
  | 2, _ => rfl
  | 3, _ => rfl
  | 4, _ => rfl
  | 5, _ => rfl
  | 6, _ => rfl
  | 7, _ => rfl
  | 8, _ => rfl
  | 9, _ => rfl
  | 10, _ => rfl
  | 11, _ => rfl
  | 12, _ => rfl
  | 13, _ => rfl
  | 14, _ => rfl
  | 15, _ => rfl
  | 16, _ => rfl
  | 17, _ => rfl
  | 18, _ => rfl
  | n + 19, h => absurd h (by omega)
theorem namesC_at : ∀ n : Nat, n < 19 → namesC[n]? = some (.string (nmS n))
  | 0, _ => rfl
  | 1, _ => rfl
  | 2, _ => rfl
  | 3, _ => rfl
  | 4, _ => rfl
  | 5, _ => rfl
  | 6, _ => rfl
  | 7, _ => rfl
  | 8, _ => rfl
  | 9, _ => rfl
  | 10, _ => rfl
  | 11, _ => rfl
  | 12, _ => rfl
  | 13, _ => rfl
  | 14, _ => rfl
  | 15, _ => rfl
  | 16, _ => rfl
  | 17, _ => rfl
  | 18, _ => rfl
  | n + 19, h => absurd h (by omega)

end Go.Proofs.YthkbenhlhldglaaDoor
