/-
  What is proved: what Pixel of package paint hands back. No conditions but bounds.
-/
import Derived.Test.YtafceieenhogpaaZi
import Derived.Test.YtafceieenhogpaaZc
namespace Go.Proofs.Ytafceieenhogpaa
open Go.RowKit Go.Sort Go.Deep

/-- Colors, one over the other. -/
def pixL (c : Int) (L : List Int) : Int := L.foldl (fun x d => ov d x) c
theorem pixL_more {c : Int} {L : List Int} {k : Nat} {d : Int} (h : L[k]? = some d) : pixL c (L.take (k + 1)) = ov d (pixL c (L.take k)) := by
  rw [List.take_add_one, h]; simp [pixL]
theorem Ns.gr {k : IntKind} {w w' : World} {A : Option Addr} {L : List Int} (h : Ns k w A L) (g : Gr w w') : Ns k w' A L := h.bl g.bl
theorem Ns.opened {k : IntKind} {w : World} {A : Option Addr} {L : List Int} (h : Ns k w A L) (hn : 0 < L.length) : ∃ b off, A = some ⟨b, off, none⟩ ∧ RowN k w b off L := by
  rcases h with h | h
  · subst h; simp at hn
  · exact h

set_option maxHeartbeats 2000000 in
theorem pix1 (c : Int) (A : Option Addr) (cap : Nat) (L : List Int) (w : World) (hA : Ns .u32 w A L) (hl : L.length ≤ 1000000) (hc : C32 c) (h32 : ∀ d ∈ L, C32 d) :
    Calls Try.prog 84 #[.int .u32 c, .slice A L.length cap] w (Rt w (.int .u32 (pixL c L))) := by
  obtain ⟨n, hn⟩ : ∃ n, n = L.length := ⟨_, rfl⟩
  rw [← hn] at hl ⊢
  replace hn := Lib.hid hn
  have H32 := Lib.hid h32
  clear h32
  go_enter Try.func84, Try.ntmps84
  go_wp2
  go_loopw [0, 9] (fun v i wr => ∃ (k : Nat) (x : Int), k ≤ n ∧ v = .int .u32 x ∧ i = .int .i64 k ∧ Hid (x = pixL c (L.take k)) ∧ C32 x ∧ Gr w wr) (fun _ i _ => n - (intOf i).toNat)
  case atStart => exact ⟨0, c, Nat.zero_le _, rfl, rfl, Lib.hid rfl, hc, Gr.refl w⟩
  case round =>
    obtain ⟨k, x, hk, rfl, rfl, hX, hx, G⟩ := hrel
    by_cases hlt : k < n
    · obtain ⟨d, hd⟩ := list_at (show k < L.length by rw [← hn.out]; exact hlt)
      obtain ⟨b, off, rfl, hrow⟩ := hA.opened (by have := hn.out; omega)
      have e1 := (hrow.gr G) k _ hd
      have hd32 := H32.out d (get_of hd).1
      have c1 := fun w => over1 d x w hd32 hx
      have hX' : Hid (ov d x = pixL c (L.take (k + 1))) := Lib.hid (by rw [pixL_more hd, hX.out])
      clear hd
      go_wp2_with fail
      refine (c1 _).mono ?_
      rintro e W1 ⟨rfl, g1⟩
      clear e1
      go_wp2
      go_roundw
      case rel => exact ⟨k + 1, ov d x, by omega, rfl, by go_num, hX', ov_c32 _ _, G.trans g1⟩
      case measure => simp [intOf]; omega
    · obtain rfl : k = n := by omega
      go_wp2
      go_ret
      exact ⟨by rw [hX.out, hn.out, List.take_length]; rfl, G⟩

end Go.Proofs.Ytafceieenhogpaa
