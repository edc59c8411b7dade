/-
  What is proved: what hasAll and first of package image hand back, and where Write refuses.
-/
import Derived.Test.YtackojmckloacaaIk
import Derived.LoopTactic
namespace Go.Proofs.Ytackojmckloacaa
open Go.RowKit Go.Sort Go.Deep

attribute [local go_sem] cell?_grow frozen?_grow nlt_r

set_option maxHeartbeats 2000000 in
theorem hasAll1 {pm pc W H : Nat} {L : List Int} (w : World) (hI : Img w pm pc W H L) (a b c d : Int) :
    Calls Try.prog 37 #[.pointer (some ⟨pm, 0, none⟩), .agg #[.int .i64 a, .int .i64 b, .int .i64 c, .int .i64 d]] w (Rt w (.bool (!emptyB a b c d && coversB 0 0 W H a b c d))) := by
  have mixed : Try.prog.follows .mixedOrders = true := by kernel_rfl
  have R0 := At.new w #[.int .i64 a, .int .i64 b, .int .i64 c, .int .i64 d] 32
  have G0 := (Gr.refl w).alloc (.cells #[.int .i64 a, .int .i64 b, .int .i64 c, .int .i64 d] 32)
  have I0 := hI.gr G0
  have ce := fun w => empty1 a b c d w
  have cv := fun w => covers1 0 0 W H a b c d w
  clear hI
  cases h : emptyB a b c d <;> rw [h] at ce
  all_goals
    go_enter Try.func37, Try.ntmps37
    go_wp2
    obtain ⟨V, hV⟩ : ∃ V, V = w.alloc (.cells #[.int .i64 a, .int .i64 b, .int .i64 c, .int .i64 d] 32) := ⟨_, rfl⟩
    rw [← hV] at R0 G0 I0 ⊢
    clear hV
    generalize w.heap.size = br at R0 ⊢
    have e0 := fun q os => R0.cells q os 0; have e1 := fun q os => R0.cells q os 1; have e2 := fun q os => R0.cells q os 2; have e3 := fun q os => R0.cells q os 3
    simp at e0 e1 e2 e3
    have cb := fun q os => box1 _ (I0.cellsG q os)
    refine wp_region_quiet_grown (by kernel_rfl) (by kernel_rfl) ?_
    repeat (first | go_big_quiet_step (first | (go_at_call 42; exact Calls.grown (ce _)) | (go_at_call 24; exact Calls.grown (cb _ _)) | (go_at_call 44; exact Calls.grown (cv _))) | quiet_step (first | (go_at_call 42; exact Calls.grown (ce _)) | (go_at_call 24; exact Calls.grown (cb _ _)) | (go_at_call 44; exact Calls.grown (cv _))))
    refine wpQuiet_nil ?_
    intro W2 g8
    replace g8 : Gr _ W2 := g8
    go_wp2
    go_ret
    exact ⟨by simp, G0.trans g8⟩

/-- The color of four bytes. -/
def colB (b0 b1 b2 b3 : Int) : Int := b0 * 16777216 + b1 * 65536 + b2 * 256 + b3
set_option maxHeartbeats 2000000 in
theorem first1 (w : World) (g off n c : Nat) (b0 b1 b2 b3 : Int) (hn : 4 ≤ n) (h0 : w.cell? ⟨g, off, none⟩ = some (.int .u8 b0)) (h1 : w.cell? ⟨g, off + 1, none⟩ = some (.int .u8 b1)) (h2 : w.cell? ⟨g, off + 2, none⟩ = some (.int .u8 b2)) (h3 : w.cell? ⟨g, off + 3, none⟩ = some (.int .u8 b3))
    (u0 : U8 b0) (u1 : U8 b1) (u2 : U8 b2) (u3 : U8 b3) :
    Calls Try.prog 38 #[.slice (some ⟨g, off, none⟩) n c] w (fun e w' => e = .returned (.int .u32 (colB b0 b1 b2 b3)) ∧ ∃ q, w' = w.drewN q) := by
  obtain ⟨u00, u01⟩ := u0
  obtain ⟨u10, u11⟩ := u1
  obtain ⟨u20, u21⟩ := u2
  obtain ⟨u30, u31⟩ := u3
  go_enter Try.func38, Try.ntmps38
  go_wp2
  go_quiet (fail)
  go_wp2
  have e1 : bits .or .u32 (b0 * 16777216) (b1 * 65536) = b0 * 16777216 + b1 * 65536 := bits_join .u32 32 (by decide) (fun n h h' => by rw [IntKind.wrap_u32]; omega) 24 _ _ (by omega) (by omega) (by omega) (by omega) (by omega) (by omega)
  have e2 : bits .or .u32 (b0 * 16777216 + b1 * 65536) (b2 * 256) = b0 * 16777216 + b1 * 65536 + b2 * 256 := bits_join .u32 32 (by decide) (fun n h h' => by rw [IntKind.wrap_u32]; omega) 16 _ _ (by omega) (by omega) (by omega) (by omega) (by omega) (by omega)
  have e3 : bits .or .u32 (b0 * 16777216 + b1 * 65536 + b2 * 256) b3 = colB b0 b1 b2 b3 := bits_join .u32 32 (by decide) (fun n h h' => by rw [IntKind.wrap_u32]; omega) 8 _ _ (by omega) (by omega) (by omega) (by omega) (by omega) (by omega)
  rw [e1, e2, e3]
  go_ret
  exact ⟨rfl, _, rfl⟩

/-- The k-th color of bytes. -/
def colAt (bs : List Int) (k : Nat) : Int := colB (bs.getD (4 * k) 0) (bs.getD (4 * k + 1) 0) (bs.getD (4 * k + 2) 0) (bs.getD (4 * k + 3) 0)
theorem colB_c32 {b0 b1 b2 b3 : Int} (u0 : U8 b0) (u1 : U8 b1) (u2 : U8 b2) (u3 : U8 b3) : C32 (colB b0 b1 b2 b3) := by
  unfold U8 at *; unfold C32 colB; omega
theorem getD_mem {P : Int → Prop} {bs : List Int} (h : ∀ x ∈ bs, P x) {i : Nat} (hi : i < bs.length) : P (bs.getD i 0) := by
  rw [List.getD, List.getElem?_eq_getElem hi]; exact h _ (List.getElem_mem hi)
theorem getD_get {bs : List Int} {i : Nat} (hi : i < bs.length) : bs[i]? = some (bs.getD i 0) := by
  rw [List.getD, List.getElem?_eq_getElem hi]; rfl
theorem colAt_c32 {bs : List Int} (h : ∀ x ∈ bs, U8 x) {k : Nat} (hk : 4 * k + 3 < bs.length) : C32 (colAt bs k) :=
  colB_c32 (getD_mem h (by omega)) (getD_mem h (by omega)) (getD_mem h (by omega)) (getD_mem h (by omega))
theorem may_in {a b c d : Int} {W H : Nat} (h : (!emptyB a b c d && coversB 0 0 W H a b c d) = true) (w2 : W ≤ 256) (h2 : H ≤ 256) : mayB a b c d = true ∧ 0 ≤ a ∧ a < c ∧ c ≤ W ∧ 0 ≤ b ∧ b < d ∧ d ≤ H := by
  simp [emptyB, coversB] at h
  obtain ⟨⟨h1, h2'⟩, h3⟩ := h
  rcases h3 with h3 | h3
  · omega
  · refine ⟨?_, by omega⟩
    simp [mayB]; omega

set_option maxHeartbeats 2000000 in
theorem writeR {pm pc W H : Nat} {L : List Int} (w : World) (hI : Img w pm pc W H L) (a b c d : Int) (A : Option Addr) (n cb : Nat) (h : (!emptyB a b c d && coversB 0 0 W H a b c d) = false) :
    Calls Try.prog 13 #[.pointer (some ⟨pm, 0, none⟩), .agg #[.int .i64 a, .int .i64 b, .int .i64 c, .int .i64 d], .slice A n cb] w (Rt w (.int .i64 4)) := by
  have G0 := ((Gr.refl w).alloc (.cells #[.int .i64 a, .int .i64 b, .int .i64 c, .int .i64 d] 32)).alloc (.cells #[.slice A n cb] 33)
  have ca := hasAll1 _ (hI.gr G0) a b c d
  rw [h] at ca
  go_enter Try.func13, Try.ntmps13
  go_wp2_with fail
  refine ca.mono ?_
  rintro e w1 ⟨rfl, g1⟩
  go_wp2
  go_ret
  exact ⟨rfl, G0.trans g1⟩

set_option maxHeartbeats 2000000 in
theorem writeL {pm pc W H : Nat} {L : List Int} (w : World) (hI : Img w pm pc W H L) (a b c d : Int) (A : Option Addr) (n cb : Nat) (h : (!emptyB a b c d && coversB 0 0 W H a b c d) = true) (_hn : n ≤ 1000000000000) (v : Int)
    (hv : ((n : Int) < 4 * areaI a b c d ∧ v = 3) ∨ (4 * areaI a b c d < (n : Int) ∧ v = 2)) :
    Calls Try.prog 13 #[.pointer (some ⟨pm, 0, none⟩), .agg #[.int .i64 a, .int .i64 b, .int .i64 c, .int .i64 d], .slice A n cb] w (Rt w (.int .i64 v)) := by
  obtain ⟨hmay, hb⟩ := may_in h hI.w2 hI.h2
  have hbd := area_bd hmay
  have R0 := (At.new w #[.int .i64 a, .int .i64 b, .int .i64 c, .int .i64 d] 32).alloc (.cells #[.slice A n cb] 33)
  have S0 := At.newAt (w := w.alloc (.cells #[.int .i64 a, .int .i64 b, .int .i64 c, .int .i64 d] 32)) (n := w.heap.size + 1) (by simp) #[.slice A n cb] 33
  have G0 := ((Gr.refl w).alloc (.cells #[.int .i64 a, .int .i64 b, .int .i64 c, .int .i64 d] 32)).alloc (.cells #[.slice A n cb] 33)
  have ca := hasAll1 _ (hI.gr G0) a b c d
  rw [h] at ca
  have cr := fun w => area1 a b c d w hmay
  change 0 ≤ areaI a b c d ∧ areaI a b c d ≤ 4398046511104 at hbd
  obtain ⟨hbd1, hbd2⟩ := hbd
  clear h hI hb hmay
  generalize areaI a b c d = ar at *
  rcases hv with ⟨hv, rfl⟩ | ⟨hv, rfl⟩
  all_goals
    go_enter Try.func13, Try.ntmps13
    go_wp2_with fail
    refine ca.mono ?_
    rintro e w1 ⟨rfl, g1⟩
    obtain ⟨r0, r1, r2, r3⟩ := cells4 (R0.gr g1)
    go_wp2_with fail
    refine (cr _).mono ?_
    rintro e w2 ⟨rfl, g2⟩
    have s0 : w2.cell? ⟨w.heap.size + 1, 0, none⟩ = some (.slice A n cb) := ((S0.gr g1).gr g2).cell 0
    clear r0 r1 r2 r3
    go_wp2
    go_ret
    exact ⟨rfl, (G0.trans g1).trans g2⟩

set_option maxRecDepth 100000 in
set_option maxHeartbeats 2000000 in
theorem writeA {pm pc W H : Nat} {L : List Int} (w : World) (hI : Img w pm pc W H L) (a b c d : Int) (A : Option Addr) (bs : List Int) (cb : Nat) (h : (!emptyB a b c d && coversB 0 0 W H a b c d) = true) (hA : Ns .u8 w A bs) (h8 : ∀ x ∈ bs, U8 x) (hcb : bs.length ≤ cb) (_hc2 : cb ≤ maxLen) (hn : (bs.length : Int) = 4 * areaI a b c d) (hn2 : bs.length ≤ 1000000) (kb : Nat) (hkb : 4 * kb + 3 < bs.length) (hbad : mayC (colAt bs kb) = false) (hok : ∀ j, j < kb → mayC (colAt bs j) = true) :
    Calls Try.prog 13 #[.pointer (some ⟨pm, 0, none⟩), .agg #[.int .i64 a, .int .i64 b, .int .i64 c, .int .i64 d], .slice A bs.length cb] w (Rt w (.int .i64 1)) := by
  obtain ⟨hmay, hb⟩ := may_in h hI.w2 hI.h2
  rcases hA with hA | ⟨g, off, rfl, hA⟩
  · subst hA; simp at hkb
  have hbl : g < w.heap.size := World.block_lt_of_cell? w _ (hA 0 _ (getD_get (by omega)))
  have R0 := (At.new w #[.int .i64 a, .int .i64 b, .int .i64 c, .int .i64 d] 32).alloc (.cells #[.slice (some ⟨g, off, none⟩) bs.length cb] 33)
  have S0 := At.newAt (w := w.alloc (.cells #[.int .i64 a, .int .i64 b, .int .i64 c, .int .i64 d] 32)) (n := w.heap.size + 1) (by simp) #[.slice (some ⟨g, off, none⟩) bs.length cb] 33
  have G0 := ((Gr.refl w).alloc (.cells #[.int .i64 a, .int .i64 b, .int .i64 c, .int .i64 d] 32)).alloc (.cells #[.slice (some ⟨g, off, none⟩) bs.length cb] 33)
  have ca := hasAll1 _ (hI.gr G0) a b c d
  rw [h] at ca
  have cr := fun w => area1 a b c d w hmay
  have hA0 := hA.gr G0
  have h88 := Lib.hid h8
  have hok' := Lib.hid hok
  have hget : ∀ i, i < bs.length → bs[i]? = some (bs.getD i 0) := fun i hi => getD_get hi
  clear h hI hb hmay h8 hok hA
  generalize areaI a b c d = ar at *
  obtain ⟨n, hnn⟩ : ∃ n, n = bs.length := ⟨_, rfl⟩
  rw [← hnn] at hn hkb hcb hget R0 S0 G0 ca hA0 ⊢
  have hnn' := Lib.hid hnn
  have hgett := Lib.hid hget
  have hle : n ≤ 1000000 := by omega
  clear hget hnn hn2
  have har1 : 4 * ar ≤ (n : Int) := by omega
  have har2 : (n : Int) ≤ 4 * ar := by omega
  have hbar1 : 0 ≤ ar := by omega
  have hbar2 : ar ≤ 1000000 := by omega
  clear hn
  go_enter Try.func13, Try.ntmps13
  go_wp2_with fail
  refine ca.mono ?_
  rintro e w1 ⟨rfl, g1⟩
  obtain ⟨r0, r1, r2, r3⟩ := cells4 (R0.gr g1)
  go_wp2_with fail
  refine (cr _).mono ?_
  rintro e w2 ⟨rfl, g2⟩
  have S2 := (S0.gr g1).gr g2
  have s0 : w2.cell? ⟨w.heap.size + 1, 0, none⟩ = some (.slice (some ⟨g, off, none⟩) n cb) := S2.cell 0
  have G2 := (G0.trans g1).trans g2
  have hA2 := (hA0.gr g1).gr g2
  clear r0 r1 r2 r3
  go_wp2_with fail
  go_loopw [8] (fun i wr => ∃ k : Nat, k ≤ kb ∧ i = .int .i64 (4 * k : Nat) ∧ Gr w2 wr) (fun i _ => n - (intOf i).toNat)
  case atStart => exact ⟨0, Nat.zero_le _, rfl, Gr.refl _⟩
  case round =>
    obtain ⟨k, hk, rfl, Gk⟩ := hrel
    obtain ⟨j, hj⟩ : ∃ j, j = 4 * k := ⟨_, rfl⟩
    have hjn : j + 3 < n := by omega
    have Ak := hA2.gr Gk
    have q0 := Ak j _ (hgett.out j (by omega)); have q1 := Ak (j + 1) _ (hgett.out (j + 1) (by omega)); have q2 := Ak (j + 2) _ (hgett.out (j + 2) (by omega)); have q3 := Ak (j + 3) _ (hgett.out (j + 3) (by omega))
    have mem := fun i (hi : i < n) => getD_mem h88.out (show i < bs.length by rw [← hnn'.out]; exact hi)
    have cf := first1 wr g (off + j) (n - j) (cb - j) _ _ _ _ (by omega) q0 (by rw [Nat.add_assoc]; exact q1) (by rw [Nat.add_assoc]; exact q2) (by rw [Nat.add_assoc]; exact q3) (mem _ (by omega)) (mem _ (by omega)) (mem _ (by omega)) (mem _ (by omega))
    have hcol : colB (bs.getD j 0) (bs.getD (j + 1) 0) (bs.getD (j + 2) 0) (bs.getD (j + 3) 0) = colAt bs k := by rw [hj]; rfl
    rw [hcol] at cf
    have c32 := colAt_c32 h88.out (k := k) (by rw [← hnn'.out]; omega)
    have cm := fun w => cmay1 (colAt bs k) w c32
    have s1 : wr.cell? ⟨w.heap.size + 1, 0, none⟩ = some (.slice (some ⟨g, off, none⟩) n cb) := (S2.gr Gk).cell 0
    rw [← hj]
    have hj' := Lib.hid hj
    clear hj q0 q1 q2 q3 mem hcol
    rcases Nat.lt_or_ge k kb with hlt | hge
    · rw [hok'.out k hlt] at cm
      go_wp2_with fail
      refine cf.mono ?_
      rintro e w3 ⟨rfl, nq, rfl⟩
      go_wp2_with fail
      refine (cm _).mono ?_
      rintro e w4 ⟨rfl, g4⟩
      go_wp2
      go_roundw
      case rel => exact ⟨k + 1, by omega, by have := hj'.out; congr 1; omega, (Gk.drewN _).trans g4⟩
      case measure => have := hj'.out; simp [intOf]; omega
    · obtain rfl : k = kb := by omega
      rw [hbad] at cm
      go_wp2_with fail
      refine cf.mono ?_
      rintro e w3 ⟨rfl, nq, rfl⟩
      go_wp2_with fail
      refine (cm _).mono ?_
      rintro e w4 ⟨rfl, g4⟩
      go_wp2
      go_ret
      exact ⟨rfl, G2.trans ((Gk.drewN _).trans g4)⟩

end Go.Proofs.Ytackojmckloacaa
