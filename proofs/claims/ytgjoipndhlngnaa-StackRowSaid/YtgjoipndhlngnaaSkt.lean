/-
  What is proved: the walk of the statement StackAll. Conditions: bounds on lengths.
-/
import Derived.Test.YtgjoipndhlngnaaSkr
namespace Go.Proofs.Ytgjoipndhlngnaa
open Go.ChangeShapes Go.WideShapes Go.ChangeAt Go.RowKit Go.Joins Go.Sort Go.Deep

section
attribute [local go_sem ↓] eqlK neqK eqlP neqP

theorem mem_add (L : List Ky) (k : Ky) : k ∈ addK L k := by
  unfold addK
  split
  · assumption
  · simp
theorem over_lenN {L : List Ky} (hd : L.Nodup) {j : Nat} {x : Ky} (h : L[j]? = some x) : (overK L x).length = L.length - 1 - j := by
  have hm : x ∈ L := List.mem_of_getElem? h
  unfold overK
  rw [if_pos hm, nodup_ix hd h, List.length_drop]; omega
theorem nodup_ne {L : List Ky} (hd : L.Nodup) {i j : Nat} {x y : Ky} (hi : L[i]? = some x) (hj : L[j]? = some y) (hij : i ≠ j) : x ≠ y := fun e => by
  subst e
  exact hij ((nodup_ix hd hi).symm.trans (nodup_ix hd hj))
set_option maxRecDepth 100000 in
set_option maxHeartbeats 8000000 in
theorem all_core (AF : Option Addr) (cF : Nat) (LF : List Ky) (w : World) (hF : shK.Rd w AF LF) (hFI : ∀ x ∈ LF, I64 x.1 ∧ I64 x.2) :
    Calls Try.prog 6 #[.slice AF LF.length cF] w fun e w' => e = .returned (.bool true) ∧ Bl w w' := by
  have cN := pNewK (A := none) (c := 0) (L := []) (w := w) (.inl rfl) (by simp)
  simp only [List.length_nil, show newK [] = [] from rfl] at cN
  go_enter Try.func6, Try.ntmps6
  go_wp2_with fail
  refine cN.mono ?_
  rintro e w2 ⟨pa, A0, c0, rfl, hpa, P2, g2⟩
  have S2 : SS w w2 pa A0 c0 [] := ⟨P2, hpa, g2⟩
  clear cN P2 g2 hpa
  go_wp2
  go_loopw [4, 5, 6] (fun iv _ _ wr => ∃ (j : Nat) (A : Option Addr) (c : Nat) (L : List Ky), j ≤ LF.length ∧ iv = .int .i64 (j : Int) ∧ SS w wr pa A c L ∧ Hid (L.length ≤ j ∧ j ≤ 9)) (fun iv _ _ _ => LF.length - (intOf iv).toNat)
  case atStart => exact ⟨0, A0, c0, [], by omega, rfl, S2, Lib.hid ⟨by simp, by omega⟩⟩
  case round =>
    clear S2
    obtain ⟨j, A, c, L, hj, rfl, S, hL⟩ := hrel
    by_cases hlt : j < LF.length ∧ j < 9
    · obtain ⟨hlt, hlt2⟩ := hlt
      obtain ⟨q, hq⟩ := list_at hlt
      obtain ⟨b, off, rfl, hrow⟩ := hF.opened (by omega)
      have hqI := hFI q (List.mem_of_getElem? hq)
      obtain ⟨e1, e2⟩ := k_at (hrow.bl S.g) hq
      have hLl : L.length ≤ 9 := by have := hL.out; omega
      have cB := fun V => small14 q hqI.1 hqI.2 V
      generalize smK q = x at *
      have ha1 := add_len L x
      have hL3 : Hid ((addK L x).length ≤ j + 1 ∧ j + 1 ≤ 9) := Lib.hid ⟨by have := hL.out; omega, by omega⟩
      have hnd2 := add_nodup S.p.nd x
      have hmm : decide (x ∈ addK L x) = true := by simpa using mem_add L x
      have haa : addK (addK L x) x = addK L x := if_pos (mem_add L x)
      clear hq hqI hrow
      go_wp2_with fail
      refine (cB _).mono ?_
      rintro e w4 ⟨rfl, g4⟩
      have S4 := (S.bl g4.bl).bl ((Bl.refl w4).alloc (.cells (kC x) 26))
      have bx := At.new w4 (kC x) 26
      have hX4 : ∀ k, SX pa A k → k < w4.heap.size := fun k hk => by
        rcases hk with rfl | hk
        · exact (S.p.hd.bl g4.bl).lt
        · exact (S.p.own.bl g4.bl).ltn k hk
      have c1 := pAt1 S4.p (by omega) x
      have hwas : decide ((0 : Int) ≤ atK L x) = decide (x ∈ L) := decide_eq_decide.2 at_ge
      have c2 := fun V (g : Bl (w4.alloc (.cells (kC x) 26)) V) => pAddK (S4.p.bl g) (by omega) (S4.bl g).g.size x
      clear cB e1 e2 S
      generalize atK L x = at1 at *
      generalize decide (x ∈ L) = was at *
      generalize addK L x = L2 at *
      go_wp2_with fail
      refine c1.mono ?_
      rintro e w5 ⟨rfl, g5⟩
      have b5 := bx.gr g5
      have x0 : w5.cell? ⟨w4.heap.size, 0, none⟩ = some (.int .i64 x.1) := b5.cell 0
      have x1 : w5.cell? ⟨w4.heap.size, 1, none⟩ = some (.int .i64 x.2) := b5.cell 1
      have S5 := S4.bl g5.bl
      go_wp2_with fail
      refine (c2 _ g5.bl).mono ?_
      rintro e w6 ⟨rfl, q6⟩
      obtain ⟨A6, c6, S6, K6⟩ := S5.next q6
      have b6 := b5.kx K6 (fun hx => by have := hX4 _ hx; omega)
      have y0 : w6.cell? ⟨w4.heap.size, 0, none⟩ = some (.int .i64 x.1) := b6.cell 0
      have y1 : w6.cell? ⟨w4.heap.size, 1, none⟩ = some (.int .i64 x.2) := b6.cell 1
      have c3 := pAddK S6.p (by have := hL3.out; omega) S6.g.size x
      rw [haa, hmm] at c3
      have hne : ((!was) == was) = false := by cases was <;> rfl
      clear c1 c2 S4 S5 q6 K6 b5 bx x0 x1
      go_wp2_with fail
      refine c3.mono ?_
      rintro e w7 ⟨rfl, q7⟩
      obtain ⟨A7, c7, S7, K7⟩ := S6.next q7
      clear c3 q7 S6 K7
      go_wp2
      go_roundw
      case rel => exact ⟨j + 1, A7, c7, L2, by omega, by go_num, S7, hL3⟩
      case measure => simp [intOf]; omega
    · have hbd : (decide ((j : Int) < (LF.length : Int)) = false ∧ ¬ (j : Int) < (LF.length : Int)) ∨ (decide ((j : Int) < (LF.length : Int)) = true ∧ decide ((j : Int) < 9) = false ∧ j < LF.length) := by
          rcases (show j = LF.length ∨ (j < LF.length ∧ 9 ≤ j) by omega) with h | h
          · exact .inl ⟨by simp; omega, by omega⟩
          · exact .inr ⟨by simp; omega, by simp; omega, h.1⟩

      clear hlt
      have hLl : Hid (L.length ≤ 9) := Lib.hid (by have := hL.out; omega)
      have hnd := S.p.nd
      have c1 := pAllK S.p (by have := hLl.out; omega)
      replace hj := Lib.hid hj
      clear hFI hF
      rcases hbd with ⟨h, h'⟩ | ⟨h, h', h''⟩
      all_goals
        go_wp2_with fail
        refine c1.mono ?_
        rintro e v1 ⟨B1, d1, rfl, o1, g1⟩
        have S1 := S.bl g1
        have r1 := o1.rd
        obtain ⟨N, hN⟩ : ∃ N, N = L.length := ⟨_, rfl⟩
        rw [← hN] at hLl
        rw [← hN]
        replace hN := Lib.hid hN
        have hN9 : N ≤ 9 := hLl.out
        clear c1 S o1 hL
        go_wp2
        go_loopw [8, 9] (fun iv _ wr => ∃ i : Nat, i ≤ N ∧ iv = .int .i64 (i : Int) ∧ Bl v1 wr) (fun iv _ _ => N - (intOf iv).toNat)
        case atStart => exact ⟨0, by omega, rfl, Bl.refl _⟩
        case round =>
          obtain ⟨i, hi, rfl, G⟩ := hrel
          by_cases hlt : i < N
          · obtain ⟨x, hx⟩ := list_at (show i < L.length by have := hN.out; omega)
            obtain ⟨b, off, rfl, hrow⟩ := r1.opened (by have := hN.out; omega)
            have X := Lib.hid (fun V (g : Bl v1 V) => k_at (hrow.bl g) hx)
            obtain ⟨e1, e2⟩ := X.out _ G
            have c4 := pAt1 (S1.p.bl G) (by have := hLl.out; have := hN.out; omega) x
            have hat : atK L x = (i : Int) := by rw [at_in (List.mem_of_getElem? hx), nodup_ix hnd hx]
            rw [hat] at c4
            have c5 := fun V (g : Bl v1 V) => pOverK (S1.p.bl g) (by have := hLl.out; have := hN.out; omega) x
            have hol : Hid ((overK L x).length = N - 1 - i) := Lib.hid (by rw [over_lenN hnd hx, hN.out])
            rw [hol.out] at c5
            have hnx := Lib.hid (fun k y (hk : k < i) (hy : L[k]? = some y) => nodup_ne hnd hy hx (Nat.ne_of_lt hk))
            have hw1 : IntKind.i64.wrap ((N : Int) - 1) = (N : Int) - 1 := IntWalk.i64_in _ (by have := hLl.out; omega)
            have hw2 : IntKind.i64.wrap ((N : Int) - 1 - (i : Int)) = ((N - 1 - i : Nat) : Int) := by rw [IntWalk.i64_in _ (by have := hLl.out; omega)]; omega
            have hn1 : ((i : Int) != (i : Int)) = false := by simp
            have hn2 : (((N - 1 - i : Nat) : Int) != ((N - 1 - i : Nat) : Int)) = false := by simp
            clear hat
            replace hx := Lib.hid hx
            go_wp2_with fail
            refine c4.mono ?_
            rintro e v2 ⟨rfl, g2⟩
            obtain ⟨f1, f2⟩ := X.out v2 (G.gr g2)
            clear c4 e1 e2
            go_wp2_with fail
            refine (c5 _ (G.gr g2)).mono ?_
            rintro e v3 ⟨B3, d3, rfl, o3, g3⟩
            have G3 := (G.gr g2).trans g3
            clear c5 f1 f2 o3
            go_wp2
            go_loopw [9] (fun kv wz => ∃ k : Nat, k ≤ i ∧ kv = .int .i64 (k : Int) ∧ Bl v1 wz) (fun kv _ => i - (intOf kv).toNat)
            case atStart => exact ⟨0, by omega, rfl, G3⟩
            case round =>
              obtain ⟨k, hk, rfl, Gz⟩ := hrel
              by_cases hlk : k < i
              · obtain ⟨y, hy⟩ := list_at (show k < L.length by have := hN.out; omega)
                have hyx := hnx.out k y hlk hy
                have hdd := ky_ne hyx
                have hkN : k < N := by omega
                have u1 := fun n os => (k_at (hrow.bl ((Gz.drewN n).grow os)) hy).1
                have u2 := fun n os => (k_at (hrow.bl ((Gz.drewN n).grow os)) hy).2
                have u3 := fun n os => (X.out _ ((Gz.drewN n).grow os)).1
                have u4 := fun n os => (X.out _ ((Gz.drewN n).grow os)).2
                clear hyx hy
                go_wp2
                refine wp_region_quiet_grown (by kernel_rfl) (by kernel_rfl) ?_
                repeat (first | go_big_quiet_step (fail) | quiet_step (fail))
                refine wpQuiet_nil ?_
                intro w9 g9
                replace g9 : Gr _ w9 := g9
                go_wp2
                go_roundw
                case rel => exact ⟨k + 1, by omega, by go_num, Gz.gr g9⟩
                case measure => simp [intOf]; omega
              · obtain rfl : k = i := by omega
                go_wp2
                go_roundw
                case rel => exact ⟨k + 1, by omega, by go_num, Gz⟩
                case measure => simp [intOf]; omega
          · obtain rfl : i = N := by omega
            have G1 := S1.g.trans G
            go_wp2_with fail
            refine (livesK _).mono ?_
            rintro e v4 ⟨rfl, g4⟩
            go_wp2
            go_ret
            exact ⟨rfl, G1.trans g4⟩
end

end Go.Proofs.Ytgjoipndhlngnaa
