/-
  What is proved: what IndexRune tells of a sign among the sixteen digits.
-/
import Derived.Test.YtcohmcnhochimaaCm
import Derived.Test.YtcohmcnhochimaaShc
import Derived.Laws.Runes
import Derived.Laws.RangeAny
import Derived.Deep.QuietTactic
import Derived.BigQuiet
import Derived.WalkSpells
import Derived.WalkMore
namespace Go.Proofs.Ytcohmcnhochimaa
open Go.RowKit Go.Sort

def dgs : ByteArray := ⟨#[48, 49, 50, 51, 52, 53, 54, 55, 56, 57, 97, 98, 99, 100, 101, 102]⟩
/-- A digit's number; -1: it is none. -/
def hv (b : Int) : Int := if 48 ≤ b ∧ b ≤ 57 then b - 48 else if 97 ≤ b ∧ b ≤ 102 then b - 87 else -1

set_option maxRecDepth 100000 in
theorem hv_idx : ∀ b : Nat, b < 128 → Lib.indexByte dgs.data.toList (b : Int).toNat.toUInt8 = hv b := by decide
theorem dgs_ascii : ∀ b ∈ dgs.data.toList, b.toNat < 128 := by decide
theorem dgs_at (p : Nat) (h : p < 16) : (dgs[p]'h).toNat < 128 := dgs_ascii _ (Array.getElem_mem_toList (xs := dgs.data) h)
theorem Gr.iter (w : World) (s : ByteArray) (p : Nat) : Gr w (w.iter s p) := (Gr.refl w).alloc _
theorem libvalid (r : Int) : Lib.validRune r = Utf8.valid r := (validRune_eq r).symm

theorem idxLow (b : Nat) (hb : b < 128) (w : World) : Calls Try.prog 37 #[.string dgs, .int .i32 b] w (Rt w (.int .i64 (hv b))) := by
  refine (sh_strings_IndexRune_ascii dgs b w (by omega) (by omega)).mono ?_
  rintro e w' ⟨rfl, rfl⟩
  rw [hv_idx b hb]
  exact ⟨rfl, Gr.refl _⟩

theorem ix_high (a e x : Nat) (h0 : 128 ≤ x) (h1 : x < 256) : Lib.indexByte (dgs.extract a e).data.toList ((x : Nat) : Int).toNat.toUInt8 = -1 := by
  rw [← Lib.firstIdx_eq]
  refine firstIdx_ascii dgs a e _ dgs_ascii ?_
  simp [Nat.toUInt8]
  omega
theorem ixb1 (a e x : Nat) (h0 : 128 ≤ x) (h1 : x < 256) (w : World) : Calls Try.prog 38 #[.string (dgs.extract a e), .int .u8 x] w (Rt w (.int .i64 (-1))) := by
  refine (sh_strings_IndexByte _ _ w).mono ?_
  rintro e w' ⟨rfl, rfl⟩
  rw [ix_high a _ x h0 h1]
  exact ⟨rfl, Gr.refl _⟩

set_option maxRecDepth 100000 in
set_option maxHeartbeats 2000000 in
theorem idxHigh (r : Int) (h0 : 128 ≤ r) (h1 : r ≤ 2147483647) (w : World) : Calls Try.prog 37 #[.string dgs, .int .i32 r] w (Rt w (.int .i64 (-1))) := by
  by_cases e : r = 65533
  · subst e
    go_enter Try.func37, Try.ntmps37
    go_wp2
    go_loopw [] (fun wr => ∃ p : Nat, p ≤ 16 ∧ wr = w.iter dgs p) (fun wr => 16 - wr.iterPos w.heap.size)
    case atStart => exact ⟨0, by omega, rfl⟩
    case round =>
      obtain ⟨p, hp, rfl⟩ := hrel
      by_cases hlt : p < 16
      · have hnx : ∀ ty, (Instr.next (.pointer (some ⟨w.heap.size, 0, none⟩)) true ty).run Try.prog (w.iter dgs p) = _ := fun ty => run_next_ascii w dgs p ty hlt (dgs_at p hlt)
        have hb := dgs_at p hlt
        generalize (dgs[p]'hlt).toNat = x at *
        have hq : ((x : Int) == 65533) = false := by simp; omega
        go_wp2
        exact ⟨⟨p + 1, by omega, rfl⟩, by simp; omega⟩
      · have hnx : ∀ ty, (Instr.next (.pointer (some ⟨w.heap.size, 0, none⟩)) true ty).run Try.prog (w.iter dgs p) = _ := fun ty => run_next_end w dgs p ty hlt
        go_wp2
        go_ret
        exact ⟨rfl, Gr.iter w dgs p⟩
  · have q1 : (r == 65533) = false := by simpa using e
    have q2 : ¬ r < 128 := by omega
    cases hv : Utf8.valid r
    · have hv' : Lib.validRune r = false := by rw [libvalid, hv]
      go_enter Try.func37, Try.ntmps37
      go_wp2_with fail
      refine (sh_utf8_ValidRune _ _).mono ?_
      rw [hv']
      rintro e w' ⟨rfl, rfl⟩
      go_wp2
      go_ret
      exact ⟨rfl, Gr.refl _⟩
    · have hv' : Lib.validRune r = true := by rw [libvalid, hv]
      obtain ⟨f1, f2, f3⟩ := encode_facts r hv h0
      go_enter Try.func37, Try.ntmps37
      go_wp2_with fail
      refine (sh_utf8_ValidRune _ _).mono ?_
      rw [hv']
      rintro e w' ⟨rfl, rfl⟩
      obtain hk | hk | hk : (Utf8.encode r).size = 2 ∨ (Utf8.encode r).size = 3 ∨ (Utf8.encode r).size = 4 := by omega
      · have h3 : 128 ≤ ((Utf8.encode r)[1]'(by omega)).toNat := by
          have := f3 (by omega)
          simpa [hk] using this
        have h4 : ((Utf8.encode r)[1]'(by omega)).toNat < 256 := UInt8.toNat_lt _
        have cI := ixb1 2 16 _ h3 h4
        have hd : (dgs[1]'(by decide)).toNat = 49 := rfl
        have hq : ((49 : Int) != (((Utf8.encode r)[1]'(by omega)).toNat : Int)) = true := by simp; omega
        have hz : dgs.size = 16 := rfl
        clear f1 f2 f3 hv hv' h0 h1 e q1
        go_wp2
        go_step3
        go_wp2
        refine wp_loop_rounds 1 ?_
        rw [rounds_succ]
        go_wp2
        go_step3
        go_wp2
        refine wp_region_quiet_grown (by kernel_rfl) (by kernel_rfl) ?_
        repeat (first | go_big_quiet_step (fail) | quiet_step (fail))
        refine wpQuiet_nil ?_
        intro W2 g8
        replace g8 : Gr _ W2 := g8
        go_wp2
        refine wp_region_quiet_grown (by kernel_rfl) (by kernel_rfl) ?_
        repeat (first | go_big_quiet_step ((go_at_call 38; exact Calls.grown (cI _))) | quiet_step ((go_at_call 38; exact Calls.grown (cI _))))
        refine wpQuiet_nil ?_
        intro W3 g9
        replace g9 : Gr _ W3 := g9
        go_wp2
        rw [Exit.noGoto_ret]
        go_ret
        exact ⟨rfl, g8.trans g9⟩
      · have h3 : 128 ≤ ((Utf8.encode r)[2]'(by omega)).toNat := by
          have := f3 (by omega)
          simpa [hk] using this
        have h4 : ((Utf8.encode r)[2]'(by omega)).toNat < 256 := UInt8.toNat_lt _
        have cI := ixb1 3 16 _ h3 h4
        have hd : (dgs[2]'(by decide)).toNat = 50 := rfl
        have hq : ((50 : Int) != (((Utf8.encode r)[2]'(by omega)).toNat : Int)) = true := by simp; omega
        have hz : dgs.size = 16 := rfl
        clear f1 f2 f3 hv hv' h0 h1 e q1
        go_wp2
        go_step3
        go_wp2
        refine wp_loop_rounds 1 ?_
        rw [rounds_succ]
        go_wp2
        go_step3
        go_wp2
        refine wp_region_quiet_grown (by kernel_rfl) (by kernel_rfl) ?_
        repeat (first | go_big_quiet_step (fail) | quiet_step (fail))
        refine wpQuiet_nil ?_
        intro W2 g8
        replace g8 : Gr _ W2 := g8
        go_wp2
        refine wp_region_quiet_grown (by kernel_rfl) (by kernel_rfl) ?_
        repeat (first | go_big_quiet_step ((go_at_call 38; exact Calls.grown (cI _))) | quiet_step ((go_at_call 38; exact Calls.grown (cI _))))
        refine wpQuiet_nil ?_
        intro W3 g9
        replace g9 : Gr _ W3 := g9
        go_wp2
        rw [Exit.noGoto_ret]
        go_ret
        exact ⟨rfl, g8.trans g9⟩
      · have h3 : 128 ≤ ((Utf8.encode r)[3]'(by omega)).toNat := by
          have := f3 (by omega)
          simpa [hk] using this
        have h4 : ((Utf8.encode r)[3]'(by omega)).toNat < 256 := UInt8.toNat_lt _
        have cI := ixb1 4 16 _ h3 h4
        have hd : (dgs[3]'(by decide)).toNat = 51 := rfl
        have hq : ((51 : Int) != (((Utf8.encode r)[3]'(by omega)).toNat : Int)) = true := by simp; omega
        have hz : dgs.size = 16 := rfl
        clear f1 f2 f3 hv hv' h0 h1 e q1
        go_wp2
        go_step3
        go_wp2
        refine wp_loop_rounds 1 ?_
        rw [rounds_succ]
        go_wp2
        go_step3
        go_wp2
        refine wp_region_quiet_grown (by kernel_rfl) (by kernel_rfl) ?_
        repeat (first | go_big_quiet_step (fail) | quiet_step (fail))
        refine wpQuiet_nil ?_
        intro W2 g8
        replace g8 : Gr _ W2 := g8
        go_wp2
        refine wp_region_quiet_grown (by kernel_rfl) (by kernel_rfl) ?_
        repeat (first | go_big_quiet_step ((go_at_call 38; exact Calls.grown (cI _))) | quiet_step ((go_at_call 38; exact Calls.grown (cI _))))
        refine wpQuiet_nil ?_
        intro W3 g9
        replace g9 : Gr _ W3 := g9
        go_wp2
        rw [Exit.noGoto_ret]
        go_ret
        exact ⟨rfl, g8.trans g9⟩

end Go.Proofs.Ytcohmcnhochimaa
