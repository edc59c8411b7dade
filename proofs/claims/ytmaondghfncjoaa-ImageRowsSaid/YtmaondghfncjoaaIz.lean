/-
  What is proved: what a clone of an image is, and when two images are the same, by package image and by the document. No conditions but bounds.
-/
import Derived.Test.YtmaondghfncjoaaIk
import Derived.Test.YtmaondghfncjoaaIx
import Derived.Deep.RegionHeld3
import Derived.WalkSpells
namespace Go.Proofs.Ytmaondghfncjoaa
open Go.RowKit Go.Sort Go.Deep

theorem row_at {w : World} {g c : Nat} {L : List Int} {B : Nat} (h : OwN .u32 30 w B (some ⟨g, 0, none⟩) c L) : ∃ X : List Value, c = L.length + X.length ∧ At w g (L.map (Value.int .u32) ++ X).toArray 30 := by
  rcases h.2 with ⟨h1, _⟩ | ⟨g', cap, cur, h1, _, h3, h4, _, h6, h7⟩
  · injection h1 with h1; cases h1
  · injection h1 with a _ b
    injection a with a
    injection a with a
    subst a b
    refine ⟨cur.toList.drop L.length, ?_, ?_⟩
    · have hz : cur.toList.length = c := by simpa using h6
      rw [List.length_drop, hz]; omega
    · unfold At
      rw [h3]
      have : L.map (Value.int .u32) ++ cur.toList.drop L.length = cur.toList := by
        rw [← h7, Nat.mul_one, List.take_append_drop]
      rw [this]

set_option maxHeartbeats 2000000 in
theorem cloneC (pc C : Nat) (L : List Int) (w : World) (hR : RowN .u32 w pc 0 L) (hl : L.length ≤ 100000) (hp : 0 < L.length) :
    Calls Try.prog 57 #[.slice (some ⟨pc, 0, none⟩) L.length C] w (fun e w' => ∃ (g : Nat) (X : List Value), e = .returned (.slice (some ⟨g, 0, none⟩) L.length (L.length + X.length)) ∧ At w' g (L.map (Value.int .u32) ++ X).toArray 30 ∧ w.heap.size ≤ g ∧ Bl w w') := by
  have qT : ∀ (w : World) (a : Option Addr) (n c n' c' : Nat), (binOp .eql 22 (.slice a n c) (.slice none n' c')).run Try.prog w = .ok (.bool a.isNone) w := fun w a n c n' c' => Lib.run_eql_slice_nil w _ _ a n c n' c' Try.underlying22
  have own : OwN .u32 30 (w.alloc (.cells #[] 30)) w.heap.size (some ⟨w.heap.size, 0, none⟩) 0 [] := ⟨rfl, .inr ⟨w.heap.size, 0, #[], rfl, Nat.le_refl _, heap_alloc_new w _, Nat.le_refl _, Nat.zero_le _, rfl, rfl⟩⟩
  have hR1 := hR.gr ((Gr.refl w).alloc (.cells #[] 30))
  go_enter Try.func57, Try.ntmps57
  go_wp2_with (at_builtin; refine wp_app_n (bs := 4) Try.underlying22 infoC rfl (by decide) rfl (.tmp 5) (.tmp 6) rfl (some ⟨w.heap.size, 0, none⟩) 0 [] rfl w.heap.size own pc 0 L C rfl hR1 hp (by simp; omega) (by simp) ?_; rintro A' c' w' own2 ap2 ⟨g, rfl⟩)
  go_ret
  have h2 : OwN .u32 30 w' w.heap.size (some ⟨g, 0, none⟩) c' L := by simpa using own2
  obtain ⟨X, rfl, hX⟩ := row_at h2
  have hg := h2.addr
  refine ⟨g, X, by simp, hX, ?_, ap2.bl ((Bl.refl w).alloc _) own (Nat.le_refl _)⟩
  rcases hg with ⟨h, _⟩ | ⟨g', h, h3, _⟩
  · cases h
  · injection h with h; injection h with h; omega

set_option maxRecDepth 100000 in
set_option maxHeartbeats 4000000 in
theorem iclone1 {pm pc W H : Nat} {L : List Int} {X : List Value} (w : World) (hI : ImgX w pm pc W H L X) :
    Calls Try.prog 51 #[.pointer (some ⟨pm, 0, none⟩)] w (fun e w' => ∃ (p2 c2 : Nat) (Y : List Value), e = .returned (.pointer (some ⟨p2, 0, none⟩)) ∧ ImgX w' p2 c2 W H L Y ∧ w.heap.size ≤ p2 ∧ w.heap.size ≤ c2 ∧ Bl w w') := by
  have hle := area_le hI.w2 hI.h2
  rw [← hI.len] at hle
  have hp : 0 < L.length := by rw [hI.len]; exact Nat.mul_pos hI.w1 hI.h1
  have hrow : RowN .u32 w pc 0 L := fun i x hi => by rw [Nat.zero_add]; exact hI.at hi
  have cC := fun (w' : World) (g : Bl w w') => cloneC pc (L.length + X.length) L w' (hrow.bl g) (by omega) hp
  obtain ⟨n, hn⟩ : ∃ n, n = L.length := ⟨_, rfl⟩
  rw [← hn] at cC
  have hnn := Lib.hid hn
  have mixed : Try.prog.follows .mixedOrders = true := by kernel_rfl
  have SK : ∀ V, Bl w V → (V.cell? ⟨pm, 0, none⟩ = some (.int .i64 W) ∧ V.cell? ⟨pm, 1, none⟩ = some (.int .i64 H) ∧ V.cell? ⟨pm, 2, none⟩ = some (.slice (some ⟨pc, 0, none⟩) n (n + X.length)) ∧ Bl w V) := fun V g => ⟨(hI.bl g).c0, (hI.bl g).c1, by rw [hn]; exact (hI.bl g).c2, g⟩
  clear hn hle hp hrow
  go_enter Try.func51, Try.ntmps51
  go_wp2
  go_region_held3 (fun V => V.cell? ⟨pm, 0, none⟩ = some (.int .i64 W) ∧ V.cell? ⟨pm, 1, none⟩ = some (.int .i64 H) ∧ V.cell? ⟨pm, 2, none⟩ = some (.slice (some ⟨pc, 0, none⟩) n (n + X.length)) ∧ Bl w V) ((refine SK _ ?_; repeat (first | with_reducible assumption | with_reducible exact Bl.refl _ | with_reducible exact (And.right (And.right (And.right (by assumption)))) | with_reducible exact Bl.trans (And.right (And.right (And.right (by assumption)))) (by assumption) | with_reducible apply Bl.drew | with_reducible apply Bl.alloc)))
    ((first
      | (go_at_call 57; (refine (cC _ (And.right (And.right (And.right (by assumption))))).mono ?_); rintro e v2 ⟨g, Y, rfl, cY, hg, g2⟩; have G2 : Bl w v2 := Bl.trans (And.right (And.right (And.right (by assumption)))) g2)))
  all_goals
    clear SK
    have hs := G2.size
    have A2 := At.new v2 #[.int .i64 W, .int .i64 H, .slice (some ⟨g, 0, none⟩) n (n + Y.length)] 76
    have A3 := cY.alloc (.cells #[.int .i64 W, .int .i64 H, .slice (some ⟨g, 0, none⟩) n (n + Y.length)] 76)
    have hlt := cY.lt
    have hwg : w.heap.size ≤ g := Nat.le_trans (by first | exact Nat.le_refl _ | exact Bl.size (by assumption)) hg
    go_wp2
    go_ret
    exact ⟨v2.heap.size, g, Y, rfl, { hd := by rw [← hnn.out]; exact A2, cs := A3, len := hI.len, w1 := hI.w1, w2 := hI.w2, h1 := hI.h1, h2 := hI.h2, ne := by omega }, hs, hwg, G2.alloc _⟩

end Go.Proofs.Ytmaondghfncjoaa
