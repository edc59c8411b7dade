/-
  What is proved: what Parse and Show hand back, and the document's.
-/
import Derived.Test.YtcohmcnhochimaaCs
import Derived.Lib.OthersKept
import Derived.Laws.BytesArg
import Derived.OwnWalk
namespace Go.Proofs.Ytcohmcnhochimaa
open Go.RowKit Go.Sort
open Go.Lib (run_next_ascii_at run_next_any_at run_next_end_at iterAt_heap)

theorem Gr.iterAt {a b : World} (h : Gr a b) {k : Nat} (hk : a.heap.size ≤ k) (s : ByteArray) (p : Nat) : Gr a (b.iterAt k s p) := by
  obtain ⟨⟨n, os⟩, rfl⟩ := h
  refine ⟨⟨n, os.setIfInBounds (k - a.heap.size) (.stringIter s p)⟩, ?_⟩
  have e : (a.drewN n).heap.size = a.heap.size := by simp
  simp only [World.iterAt, Go.Sort.grow]
  congr 1
  apply Array.ext'
  simp only [Array.toList_setIfInBounds, Array.toList_append]
  rw [List.set_append_right _ _ (by simpa using hk)]
  congr 2
theorem Gr.heap {a b : World} (h : Gr a b) {k : Nat} {o : Obj} (hk : a.heap[k]? = some o) : b.heap[k]? = some o := by
  have hlt : k < a.heap.size := (Array.getElem?_eq_some_iff.1 hk).1
  rw [h.below.block k hlt]; exact hk

def bAt (s : ByteArray) (p : Nat) : Nat := (s.data.toList.getD p 0).toNat
theorem bAt_eq (s : ByteArray) (p : Nat) (h : p < s.size) : (s[p]'h).toNat = bAt s p := by
  unfold bAt
  have : s.data.toList.getD p 0 = s.data[p] := by simp [List.getD, Array.getElem?_eq_getElem (show p < s.data.size from h)]
  rw [this]; rfl
def hx (s : ByteArray) : Nat → Int
  | 0 => 0
  | p + 1 => hx s p * 16 + hv (bAt s p)
def okP (s : ByteArray) (p : Nat) : Prop := ∀ j, j < p → 0 ≤ hv (bAt s j)
theorem hv_bd (b : Int) : -1 ≤ hv b ∧ hv b ≤ 15 := by unfold hv; split <;> (try split) <;> omega
theorem okP.succ {s : ByteArray} {p : Nat} (h : okP s p) (k : 0 ≤ hv (bAt s p)) : okP s (p + 1) := fun j hj => by
  rcases Nat.lt_or_ge j p with hl | hl
  · exact h j hl
  · obtain rfl : j = p := by omega
    exact k
def bdN : Nat → Int
  | 0 => 0
  | p + 1 => bdN p * 16 + 15
theorem bdN_mono {p q : Nat} (h : p ≤ q) : bdN p ≤ bdN q := by
  have hp : ∀ p, 0 ≤ bdN p := fun p => by induction p with
    | zero => exact Int.le_refl _
    | succ p ih => unfold bdN; omega
  induction h with
  | refl => exact Int.le_refl _
  | @step m h ih => have := hp m; show bdN p ≤ bdN m * 16 + 15; omega
theorem hx_bd {s : ByteArray} : ∀ {p : Nat}, okP s p → 0 ≤ hx s p ∧ hx s p ≤ bdN p
  | 0, _ => by simp [hx, bdN]
  | p + 1, h => by
    have ih := hx_bd (p := p) (fun j hj => h j (by omega))
    have h1 := h p (by omega)
    have h2 := hv_bd (bAt s p)
    unfold hx bdN
    omega
theorem hx_bd7 {s : ByteArray} {p : Nat} (h : okP s p) (hp : p ≤ 7) : 0 ≤ hx s p ∧ hx s p ≤ 268435455 := by
  have h1 := hx_bd h
  have h2 := bdN_mono hp
  rw [show bdN 7 = 268435455 from rfl] at h2
  omega
theorem hx_bd8 {s : ByteArray} {p : Nat} (h : okP s p) (hp : p ≤ 8) : 0 ≤ hx s p ∧ hx s p ≤ 4294967295 := by
  have h1 := hx_bd h
  have h2 := bdN_mono hp
  rw [show bdN 8 = 4294967295 from rfl] at h2
  omega
/-- What is read out of a text. -/
def Prs (s : ByteArray) (v : Int) (b : Bool) : Prop := (s.size = 8 ∧ okP s 8 ∧ v = hx s 8 ∧ b = true) ∨ (¬ (s.size = 8 ∧ okP s 8) ∧ v = 0 ∧ b = false)
theorem Prs.one {s : ByteArray} {v v' : Int} {b b' : Bool} (h : Prs s v b) (k : Prs s v' b') : v = v' ∧ b = b' := by
  rcases h with ⟨h1, h2, h3, h4⟩ | ⟨h1, h3, h4⟩ <;> rcases k with ⟨k1, k2, k3, k4⟩ | ⟨k1, k3, k4⟩
  · exact ⟨h3.trans k3.symm, h4.trans k4.symm⟩
  · exact absurd ⟨h1, h2⟩ k1
  · exact absurd ⟨k1, k2⟩ h1
  · exact ⟨h3.trans k3.symm, h4.trans k4.symm⟩
theorem Prs.short {s : ByteArray} (h : s.size ≠ 8) : Prs s 0 false := .inr ⟨fun k => h k.1, rfl, rfl⟩
theorem Prs.bad {s : ByteArray} {p : Nat} (hp : p < 8) (h : ¬ 0 ≤ hv (bAt s p)) : Prs s 0 false := .inr ⟨fun k => h (k.2 p hp), rfl, rfl⟩
def PQ (s : ByteArray) (w : World) (e : Ending) (w' : World) : Prop := ∃ v b, e = .returned (.tuple #[.int .u32 v, .bool b]) ∧ Prs s v b ∧ 0 ≤ v ∧ Gr w w'

theorem or16 {x y : Int} (h0 : 0 ≤ x) (h1 : x ≤ 268435455) (h2 : 0 ≤ y) (h3 : y ≤ 15) : bits .or .u32 (x * 16) y = x * 16 + y :=
  bits_join .u32 32 (by decide) (fun n h h' => by rw [IntKind.wrap_u32]; omega) 4 (x * 16) y (by omega) (by omega) (by omega) h2 (by omega) (by omega)

set_option maxRecDepth 100000 in
set_option maxHeartbeats 2000000 in
theorem parse1 (s : ByteArray) (_ : s.size ≤ 9223372036854775807) (w : World) : Calls Try.prog 29 #[.string s] w (PQ s w) := by
  by_cases h8 : s.size = 8
  · have q8 : ((s.size : Int) != 8) = false := by simp; omega
    go_enter Try.func29, Try.ntmps29
    go_wp2
    go_loopw [4] (fun cv wr => ∃ p : Nat, p ≤ 8 ∧ cv = .int .u32 (hx s p) ∧ okP s p ∧ wr.heap[w.heap.size]? = some (.stringIter s p) ∧ Gr w wr) (fun _ wr => 8 - wr.iterPos w.heap.size)
    case atStart => exact ⟨0, by omega, rfl, fun j hj => by omega, World.iter_heap w s 0, Gr.iter w s 0⟩
    case round =>
      obtain ⟨p, hp, rfl, hok, hit, G⟩ := hrel
      have hip : wr.iterPos w.heap.size = p := by unfold World.iterPos; rw [hit]
      by_cases hlt : p < 8
      · have hps : p < s.size := by omega
        have hbx := bAt_eq s p hps
        have hb := hx_bd7 hok (by omega)
        have hvb := hv_bd (bAt s p)
        have hsucc : hx s (p + 1) = hx s p * 16 + hv (bAt s p) := rfl
        have hbad := fun h => Prs.bad (s := s) hlt h
        have hoks := fun h => hok.succ h
        by_cases hlo : (s[p]'hps).toNat < 128
        · have hnx : ∀ ty, (Instr.next (.pointer (some ⟨w.heap.size, 0, none⟩)) true ty).run Try.prog wr = _ := fun ty => run_next_ascii_at wr w.heap.size s p ty hit hps hlo
          have G1 := G.iterAt (Nat.le_refl _) s (p + 1)
          have hit1 := iterAt_heap wr w.heap.size s p (p + 1) hit
          rw [hbx] at hnx hlo
          have cI := idxLow (bAt s p) hlo
          generalize hx s p = c at *
          generalize hv (bAt s p) = d at *
          obtain ⟨hb0, hb1⟩ := hb
          obtain ⟨hv0, hv1⟩ := hvb
          generalize wr.iterAt w.heap.size s (p + 1) = W1 at *
          replace hit := Lib.hid hit
          replace hip := Lib.hid hip
          replace hsucc := Lib.hid hsucc
          replace hbx := Lib.hid hbx
          replace hit1 := Lib.hid hit1
          by_cases hd : d < 0
          · go_wp2_with fail
            refine (cI _).mono ?_
            rintro e W2 ⟨rfl, g2⟩
            go_wp2
            go_ret2
            exact ⟨0, false, rfl, hbad (by omega), Int.le_refl _, G1.trans g2⟩
          · have e1 : bits .or .u32 (c * 16) d = c * 16 + d := or16 hb0 hb1 (by omega) hv1
            go_wp2_with fail
            refine (cI _).mono ?_
            rintro e W2 ⟨rfl, g2⟩
            go_wp2
            go_roundw
            case rel => exact ⟨p + 1, by omega, by rw [hsucc.out], hoks (by omega), g2.heap hit1.out, G1.trans g2⟩
            case measure => rw [hip.out]; unfold World.iterPos; rw [g2.heap hit1.out]; simp; omega
        · have hnx : ∀ ty, (Instr.next (.pointer (some ⟨w.heap.size, 0, none⟩)) true ty).run Try.prog wr = _ := fun ty => run_next_any_at wr w.heap.size s p ty hit hps
          have G1 := G.iterAt (Nat.le_refl _) s (p + (Utf8.decode s p).2)
          have hh := decode_high s p hps (by omega)
          have hl := decode_le s p
          have hd : ¬ 0 ≤ hv (bAt s p) := by rw [← hbx]; unfold hv; rw [if_neg (by omega), if_neg (by omega)]; omega
          generalize (Utf8.decode s p).1 = r at *
          generalize wr.iterAt w.heap.size s (p + (Utf8.decode s p).2) = W1 at *
          obtain ⟨hh0, _⟩ := hh
          have cI := idxHigh r (by omega) (by omega)
          replace hbad := hbad hd
          clear hoks hsucc hvb hbx hip hlo hd
          replace hit := Lib.hid hit
          go_wp2_with fail
          refine (cI _).mono ?_
          rintro e W2 ⟨rfl, g2⟩
          go_wp2
          go_ret2
          exact ⟨0, false, rfl, hbad, Int.le_refl _, G1.trans g2⟩
      · have hpe : p = 8 := by omega
        have hnx : ∀ ty, (Instr.next (.pointer (some ⟨w.heap.size, 0, none⟩)) true ty).run Try.prog wr = _ := fun ty => run_next_end_at wr w.heap.size s p ty hit (by omega)
        replace hit := Lib.hid hit
        replace hip := Lib.hid hip
        have hb := hx_bd8 hok hp
        subst hpe
        go_wp2
        go_ret2
        exact ⟨hx s 8, true, rfl, .inl ⟨h8, hok, rfl, rfl⟩, hb.1, G⟩
  · have q8 : ((s.size : Int) != 8) = true := by simp; omega
    go_enter Try.func29, Try.ntmps29
    go_wp2
    go_ret2
    exact ⟨0, false, rfl, Prs.short h8, Int.le_refl _, Gr.refl _⟩

set_option maxRecDepth 100000 in
set_option maxHeartbeats 2000000 in
theorem refparse1 (s : ByteArray) (_ : s.size ≤ 9223372036854775807) (w : World) : Calls Try.prog 30 #[.string s] w (PQ s w) := by
  by_cases h8 : s.size = 8
  · have q8 : ((s.size : Int) != 8) = false := by simp; omega
    go_enter Try.func30, Try.ntmps30
    go_wp2
    go_loop [4, 5] (fun nv iv => ∃ p : Nat, p ≤ 8 ∧ nv = .int .i64 (hx s p) ∧ iv = .int .i64 p ∧ okP s p) (fun _ iv => 8 - (intOf iv).toNat)
    case atStart => exact ⟨0, by omega, rfl, rfl, fun j hj => by omega⟩
    case round =>
      obtain ⟨p, hp, rfl, rfl, hok⟩ := hrel
      by_cases hlt : p < 8
      · have hps : p < s.size := by omega
        have hbx := bAt_eq s p hps
        have hb := hx_bd7 hok (by omega)
        have hx1 : (s[p]'hps).toNat < 256 := UInt8.toNat_lt _
        have hsucc : hx s (p + 1) = hx s p * 16 + hv (bAt s p) := rfl
        have hbad := fun h => Prs.bad (s := s) hlt h
        have hoks := fun h => hok.succ h
        rw [← hbx] at hsucc hbad hoks
        replace hsucc := Lib.hid hsucc
        replace hbad := Lib.hid hbad
        replace hoks := Lib.hid hoks
        clear hbx
        generalize hx s p = c at *
        obtain ⟨hb0, hb1⟩ := hb
        go_wp2
        · refine ⟨⟨p + 1, by omega, ?_, by go_num, hoks.out ?_⟩, by simp [intOf]; omega⟩
          · rw [hsucc.out, show hv _ = _ from by unfold hv; rw [if_pos ⟨by omega, by omega⟩]]; congr 1; omega
          · unfold hv; rw [if_pos ⟨by omega, by omega⟩]; omega
        · refine ⟨⟨p + 1, by omega, ?_, by go_num, hoks.out ?_⟩, by simp [intOf]; omega⟩
          · rw [hsucc.out, show hv _ = _ from by unfold hv; rw [if_neg (by omega), if_pos ⟨by omega, by omega⟩]]; congr 1; omega
          · unfold hv; rw [if_neg (by omega), if_pos ⟨by omega, by omega⟩]; omega
        all_goals
          go_ret2
          exact ⟨0, false, rfl, hbad.out (by unfold hv; rw [if_neg (by omega), if_neg (by omega)]; omega), Int.le_refl _, Gr.refl _⟩
      · have hpe : p = 8 := by omega
        have hb := hx_bd8 hok hp
        subst hpe
        have hb0 := hb.1
        have hb1 := hb.2
        go_wp2
        go_ret2
        exact ⟨hx s 8, true, rfl, .inl ⟨h8, hok, rfl, rfl⟩, hb0, Gr.refl _⟩
  · have q8 : ((s.size : Int) != 8) = true := by simp; omega
    go_enter Try.func30, Try.ntmps30
    go_wp2
    go_ret2
    exact ⟨0, false, rfl, Prs.short h8, Int.le_refl _, Gr.refl _⟩

end Go.Proofs.Ytcohmcnhochimaa
