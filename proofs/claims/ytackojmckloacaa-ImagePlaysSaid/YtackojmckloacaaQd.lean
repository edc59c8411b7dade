/-
  What is proved: the document's Read of an image.
-/
import Derived.Test.YtackojmckloacaaQr
import Derived.Test.YtackojmckloacaaIq
import Derived.Test.YtackojmckloacaaIb
import Derived.Test.YtackojmckloacaaIc
namespace Go.Proofs.Ytackojmckloacaa
open Go.RowKit Go.Sort Go.Shelf

theorem idx_w {y W x : Nat} (h : y * W + x ≤ 1000000) : wrap64 ((y : Int) * (W : Int)) = ((y * W : Nat) : Int) ∧ wrap64 (((y * W : Nat) : Int) + (x : Int)) = ((y * W + x : Nat) : Int) :=
  ⟨by rw [← Int.natCast_mul]; exact w64 (by omega) (by omega), by rw [← Int.natCast_add]; exact w64 (by omega) (by omega)⟩

theorem px_cell {cc v : Int} {k : Nat} (h : (px cc)[k]? = some v) : (#[.int .i64 (pA cc), .int .i64 (pR cc), .int .i64 (pG cc), .int .i64 (pB cc)] : Array Value)[k]? = some (.int .i64 v) := by
  match k with
  | 0 => simp [px] at h; simp [h]
  | 1 => simp [px] at h; simp [h]
  | 2 => simp [px] at h; simp [h]
  | 3 => simp [px] at h; simp [h]
  | n + 4 => simp [px] at h
theorem px_by {cc v : Int} {k : Nat} (hc : C32 cc) (h : (px cc)[k]? = some v) : 0 ≤ v ∧ v < 256 := by
  unfold C32 at hc
  match k with
  | 0 => simp [px, pA] at h; omega
  | 1 => simp [px, pR] at h; omega
  | 2 => simp [px, pG] at h; omega
  | 3 => simp [px, pB] at h; omega
  | n + 4 => simp [px] at h
theorem app_ne {w : World} {B bp c : Nat} {A : Option Addr} {L : List Int} {v a r g b : Int} {t e : TypeId} (h : OwN .u8 e w B A c (L ++ [v])) (hA : ∃ g, A = some ⟨g, 0, none⟩) (X : At w bp #[.int .i64 a, .int .i64 r, .int .i64 g, .int .i64 b] t) : some bp ≠ A.map (·.block) := by
  obtain ⟨k, rfl⟩ := hA
  intro he
  simp at he
  subst he
  obtain ⟨y, hy⟩ := list_at (l := L ++ [v]) (k := 0) (by simp)
  have h1 := h.row 0 y hy
  rw [Nat.zero_add, X.cell 0] at h1
  simp at h1

end Go.Proofs.Ytackojmckloacaa
