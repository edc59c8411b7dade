/-
  What is proved: what a clone of an image is, and when two images are the same, by package image and by the document. No conditions but bounds.
-/
import Derived.Test.YtackojmckloacaaIk
import Derived.Test.YtackojmckloacaaIx
import Derived.Deep.RegionHeld3
import Derived.WalkSpells
namespace Go.Proofs.Ytackojmckloacaa
open Go.RowKit Go.Sort Go.Deep

theorem row_at {w : World} {g c : Nat} {L : List Int} {B : Nat} (h : OwN .u32 30 w B (some ⟨g, 0, none⟩) c L) : ∃ X : List Value, c = L.length + X.length ∧ At w g (L.map (Value.int .u32) ++ X).toArray 30 := by
  rcases h.2 with ⟨h1, _⟩ | ⟨g', cap, cur, h1, _, h3, h4, _, h6, h7⟩
  · injection h1 with h1; cases h1
  · injection h1 with a _ b
    injection a with a
    injection a with a
    subst a b
    refine ⟨cur.toList.drop L.length, ?_, ?_⟩
    · have hz : cur.toList.length = c := by simpa using h6
      rw [List.length_drop, hz]; omega
    · unfold At
      rw [h3]
      have : L.map (Value.int .u32) ++ cur.toList.drop L.length = cur.toList := by
        rw [← h7, Nat.mul_one, List.take_append_drop]
      rw [this]

end Go.Proofs.Ytackojmckloacaa
