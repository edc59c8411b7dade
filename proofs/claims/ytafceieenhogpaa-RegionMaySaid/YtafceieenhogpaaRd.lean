/-
  What is proved: what the document's own 'add' and 'spans' hand back.
-/
import Derived.Test.YtafceieenhogpaaMr
import Derived.Test.YtafceieenhogpaaRa
namespace Go.Proofs.Ytafceieenhogpaa
open Go.RowKit Go.Sort

/-- A slice of ints is handed back. -/
def RP (w : World) (Q : List Int → Prop) (e : Ending) (w' : World) : Prop := ∃ (A : Option Addr) (c : Nat) (E : List Int), e = .returned (.slice A E.length c) ∧ Is w' A E ∧ Q E ∧ Bl w w'

set_option maxHeartbeats 8000000 in
theorem refadd1 (A : Option Addr) (c : Nat) (l : List Int) (n : Int) (w : World) (h : Is w A l) (hl : Inc l) (hlen : l.length ≤ 1000000) :
    Calls Try.prog 101 #[.slice A l.length c, .int .i64 n] w (RP w (Adds l n)) := by
  go_enter Try.func101, Try.ntmps101
  go_wp2
  go_loopw [5, 6, 7] (fun v dn i wr => ∃ (k : Nat) (d : Bool) (A' : Option Addr) (c' : Nat) (O : List Int), k ≤ l.length ∧ v = .slice A' O.length c' ∧ dn = .bool d ∧ i = .int .i64 k ∧ Hid (AInv l n k d O) ∧ OwI wr w.heap.size A' c' O ∧ Bl w wr) (fun _ _ i _ => l.length - (intOf i).toNat)
  case atStart => exact ⟨0, false, none, 0, [], Nat.zero_le _, rfl, rfl, rfl, Lib.hid (AInv.start l n), OwI.nil _ _, Bl.refl _⟩
  case round =>
    obtain ⟨k, d, A', c', O, hk, rfl, rfl, rfl, inv, own, G⟩ := hrel
    have hO := inv.out.len
    have szo := G.size
    by_cases hlt : k < l.length
    · obtain ⟨x, hx⟩ := list_at hlt
      obtain ⟨b, off, rfl, row⟩ := h.opened (by omega)
      have e1 := (row.bl G) k x hx
      by_cases hne : x = n
      · subst hne
        have fin : Adds l x l := ⟨hl, fun y => ⟨.inl, fun hy => hy.elim id (fun hy => by rw [hy]; exact get_mem hx)⟩, by omega⟩
        replace fin := Lib.hid fin
        clear hx
        go_wp2
        go_ret
        exact ⟨_, c, l, rfl, h.bl G, fin.out, G⟩
      · have q1 : (x == n) = false := beq_false_of_ne hne
        have hlen2 : O.length ≤ 1000001 := by omega
        have ways := inv.out.more hl hx hne
        replace hx := Lib.hid hx
        rcases ways with ⟨g1, rfl, g3⟩ | ⟨g1, rfl, g3⟩ | ⟨g1, rfl, g3⟩
        · replace g3 := Lib.hid g3
          go_wp2_with (first
            | (at_builtin; refine wp_app_i rfl (.tmp 31) (.tmp 33) rfl A' c' O rfl w.heap.size (own.bl ((Bl.refl wr).alloc _)) wr.heap.size n 1 rfl (At.new _ _ _) (by omega) (by simp; omega) ?_; intro A2 c2 w2 own2 ap2; have G2 := ap2.bl (G.alloc _) (own.bl ((Bl.refl wr).alloc _)).lies (Nat.le_refl _); have e2 := (row.bl G2) k x hx.out; have sz2 := G2.size)
            | (at_builtin; refine wp_app_i rfl (.tmp 35) (.tmp 40) rfl A2 c2 (O ++ [n]) (by rw [List.length_append]; rfl) w.heap.size (own2.bl ((Bl.refl w2).alloc _)) w2.heap.size x 1 rfl (At.new _ _ _) (by rw [List.length_append]; simp; omega) (by simp; omega) ?_; intro A3 c3 w3 own3 ap3))
          go_roundw
          case rel => exact ⟨k + 1, true, A3, c3, O ++ [n] ++ [x], by omega, by simp, rfl, by go_num, g3, own3, ap3.bl (G2.alloc _) (own2.bl ((Bl.refl w2).alloc _)).lies (Nat.le_refl _)⟩
          case measure => simp [intOf]; omega
        · replace g3 := Lib.hid g3
          go_wp2_with (at_builtin; refine wp_app_i rfl (.tmp 35) (.tmp 40) rfl A' c' O rfl w.heap.size (own.bl ((Bl.refl wr).alloc _)) wr.heap.size x 1 rfl (At.new _ _ _) (by omega) (by simp; omega) ?_; intro A3 c3 w3 own3 ap3)
          go_roundw
          case rel => exact ⟨k + 1, true, A3, c3, O ++ [x], by omega, by simp, rfl, by go_num, g3, own3, ap3.bl (G.alloc _) (own.bl ((Bl.refl wr).alloc _)).lies (Nat.le_refl _)⟩
          case measure => simp [intOf]; omega
        · replace g3 := Lib.hid g3
          go_wp2_with (at_builtin; refine wp_app_i rfl (.tmp 35) (.tmp 40) rfl A' c' O rfl w.heap.size (own.bl ((Bl.refl wr).alloc _)) wr.heap.size x 1 rfl (At.new _ _ _) (by omega) (by simp; omega) ?_; intro A3 c3 w3 own3 ap3)
          go_roundw
          case rel => exact ⟨k + 1, false, A3, c3, O ++ [x], by omega, by simp, rfl, by go_num, g3, own3, ap3.bl (G.alloc _) (own.bl ((Bl.refl wr).alloc _)).lies (Nat.le_refl _)⟩
          case measure => simp [intOf]; omega
    · obtain rfl : k = l.length := by omega
      have fin := inv.out.done hl
      replace fin := Lib.hid fin
      cases d with
      | true =>
        go_wp2
        go_ret
        exact ⟨A', c', O, rfl, own.is, by simpa using fin.out, G⟩
      | false =>
        go_wp2_with (at_builtin; refine wp_app_i rfl (.tmp 44) (.tmp 46) rfl A' c' O rfl w.heap.size (own.bl ((Bl.refl wr).alloc _)) wr.heap.size n 1 rfl (At.new _ _ _) (by omega) (by simp; omega) ?_; intro A3 c3 w3 own3 ap3)
        go_ret
        exact ⟨A3, c3, O ++ [n], by simp, own3.is, by simpa using fin.out, ap3.bl (G.alloc _) (own.bl ((Bl.refl wr).alloc _)).lies (Nat.le_refl _)⟩

def spansB (L M : List Rc) : Bool := decide (L.map (fun r => (r.a, r.c)) = M.map (fun r => (r.a, r.c)))

end Go.Proofs.Ytafceieenhogpaa
