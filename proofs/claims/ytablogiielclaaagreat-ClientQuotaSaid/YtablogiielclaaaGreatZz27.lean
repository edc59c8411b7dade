/-
  What is proved: what Do of package client makes of the operations buffer and surface, and of the commit of a surface that was just made. Conditions: numbers are ints; few buffers. what as and events of the statements of package client tell, and that their own example comes out true. Conditions: numbers are ints. plain mathematics of a client's ids, as they are given one by one. No conditions. the walk of the statement ClientQuota: there are never more objects than 32; each one more is refused, and told. Conditions: two ints.
-/
import Derived.Test.YtablogiielclaaaGreatZz26
import Derived.BigQuiet
import Derived.Deep.QuietTactic
import Derived.Great.BuildSlice
namespace Go.Proofs.YtablogiielclaaaGreat
open Go.ChangeShapes Go.WideShapes Go.ChangeAt Go.RowKit Go.Joins Go.Sort Go.Deep Go.Maps

section
variable {w : World} {cb n : Nat} {v : Cv} {L : List Ik} {S : List Bf} {M : List Ik}
theorem clno {w1 : World} (h : ClR w1 cb v L S n M) {b : Nat} {cs : Array Value} (hb : At w1 b cs 101) : ¬ ClX v b := by
  rintro (rfl | rfl | hk)
  · exact h.tb.mp.no _ _ hb
  · exact h.wd.no _ _ hb
  · exact h.pl.notT hb (by decide) (by decide) (by decide) hk
set_option maxRecDepth 100000 in
set_option maxHeartbeats 1000000 in
theorem cldo0a (h : ClR w cb v L S n M) (hn : n ≤ 1000) (i r0 r1 r2 r3 : Int) (H1 H2 : Nat) (s : ByteArray) (D : Option Addr) (m c : Nat) (hi : I64 i) (he : addIE 32 L i 1 = 0) (hf : plF i S = none) (q1 : 1 ≤ H1) (q2 : H1 ≤ 256) (q3 : 1 ≤ H2) (q4 : H2 ≤ 256) :
    Calls Tryz.prog 37 #[.pointer (some ⟨cb, 0, none⟩), .agg #[.int .i64 0, .int .i64 i, .int .i64 (H1 : Int), .int .i64 (H2 : Int), .int .i64 r0, .int .i64 r1, .int .i64 r2, .int .i64 r3, .string s, .slice D m c]] w fun e w' => ∃ Q', e = .returned (.tuple #[.slice none 0 0, .slice none 0 0]) ∧ ClR w' cb { v with Q := Q' } (insL (i, 1) L) (S ++ [newB i H1 H2]) (n + 1) M ∧ Kx (ClX v) w w' ∧ ∀ k, ClX { v with Q := Q' } k → ClX v k ∨ w.heap.size ≤ k := by
  go_enter Tryz.func37, Tryz.ntmps37
  go_upto_region 1 with fail
  generalize hW : World.alloc w _ = W
  have R1 : At W w.heap.size #[.int .i64 0, .int .i64 i, .int .i64 (H1 : Int), .int .i64 (H2 : Int), .int .i64 r0, .int .i64 r1, .int .i64 r2, .int .i64 r3, .string s, .slice D m c] 101 := by rw [← hW]; exact At.new w _ _
  have G : Bl w W := by rw [← hW]; exact (Bl.refl w).alloc _
  clear hW
  have SK := Lib.hid (fun (V : World) (g : Bl W V) => (show At V w.heap.size #[.int .i64 0, .int .i64 i, .int .i64 (H1 : Int), .int .i64 (H2 : Int), .int .i64 r0, .int .i64 r1, .int .i64 r2, .int .i64 r3, .string s, .slice D m c] 101 from R1.bl g))
  refine wp_region_held_drew (S := fun V => At V w.heap.size #[.int .i64 0, .int .i64 i, .int .i64 (H1 : Int), .int .i64 (H2 : Int), .int .i64 r0, .int .i64 r1, .int .i64 r2, .int .i64 r3, .string s, .slice D m c] 101) (by kernel_rfl) (SK.out _ (Bl.refl _).drew) (fun hHeld => ?_)
  have B0 : Bl W W.drew := (Bl.refl _).drew
  generalize W.drew = U0 at *
  refine wpAnyH_take (i := 1) (v := ?_) rfl (by kernel_rfl) (by kernel_rfl) (by kernel_rfl) (fun _ _ _ h => h) (Or.inl ⟨by rfl, ?hy6001⟩) (by assumption) ?rest6001
  case hy6001 => intro w' hSw; go_simp; (try with_reducible rfl)
  try simp only [Act.put, List.setIfInBounds_toArray, List.set_cons_zero, List.set_cons_succ, List.getElem_toArray, List.getElem_cons_succ, List.getElem_cons_zero]
  refine wpAnyH_take (i := 2) (v := ?_) rfl (by kernel_rfl) (by kernel_rfl) (by kernel_rfl) (fun _ _ _ h => h) (Or.inl ⟨by rfl, ?hy6002⟩) (by assumption) ?rest6002
  case hy6002 => intro w' hSw; have hc : w'.cell? ⟨w.heap.size, 0, none⟩ = some (.int .i64 0) := hSw.cell 0; go_simp; (try with_reducible rfl)
  try simp only [Act.put, List.setIfInBounds_toArray, List.set_cons_zero, List.set_cons_succ, List.getElem_toArray, List.getElem_cons_succ, List.getElem_cons_zero]
  refine wpAnyH_ready (rs := [0]) (by kernel_rfl) (by simp) (AllReadyH.cons rfl (fun K9 hK9 => ?_) AllReadyH.nil)
  go_simp
  refine (clops1 _).mono ?_
  rintro e U1 ⟨bm, rfl, hFm, g2⟩
  have B3 : Bl W U1 := Bl.trans B0 g2
  refine hK9.out _ _ (SK.out _ B3) (fun _ => ?_)
  clear hK9 K9
  try simp only [Act.put, List.setIfInBounds_toArray, List.set_cons_zero, List.set_cons_succ, List.getElem_toArray, List.getElem_cons_succ, List.getElem_cons_zero]
  refine wpAnyH_ready (rs := [3]) (by kernel_rfl) (by simp) (AllReadyH.cons rfl (fun K9 hK9 => ?_) AllReadyH.nil)
  have hlk := run_lookF (i := 0) (g := 169) hFm (by unfold I64; omega) (by kernel_rfl) (by kernel_rfl)
  go_simp
  clear hlk
  refine hK9.out _ _ (SK.out _ B3) (fun _ => ?_)
  clear hK9 K9
  try simp only [Act.put, List.setIfInBounds_toArray, List.set_cons_zero, List.set_cons_succ, List.getElem_toArray, List.getElem_cons_succ, List.getElem_cons_zero]
  refine wpAnyH_take (i := 4) (v := ?_) rfl (by kernel_rfl) (by kernel_rfl) (by kernel_rfl) (fun _ _ _ h => h) (Or.inl ⟨by rfl, ?hy6003⟩) (by assumption) ?rest6003
  case hy6003 => intro w' hSw; go_simp; (try with_reducible rfl)
  try simp only [Act.put, List.setIfInBounds_toArray, List.set_cons_zero, List.set_cons_succ, List.getElem_toArray, List.getElem_cons_succ, List.getElem_cons_zero]
  refine wpAnyH_take (i := 5) (v := ?_) rfl (by kernel_rfl) (by kernel_rfl) (by kernel_rfl) (fun _ _ _ h => h) (Or.inl ⟨by rfl, ?hy6004⟩) (by assumption) ?rest6004
  case hy6004 => intro w' hSw; go_simp; (try with_reducible rfl)
  try simp only [Act.put, List.setIfInBounds_toArray, List.set_cons_zero, List.set_cons_succ, List.getElem_toArray, List.getElem_cons_succ, List.getElem_cons_zero]
  refine wpAnyH_take (i := 6) (v := ?_) rfl (by kernel_rfl) (by kernel_rfl) (by kernel_rfl) (fun _ _ _ h => h) (Or.inl ⟨by rfl, ?hy6005⟩) (by assumption) ?rest6005
  case hy6005 => intro w' hSw; go_simp; (try with_reducible rfl)
  try simp only [Act.put, List.setIfInBounds_toArray, List.set_cons_zero, List.set_cons_succ, List.getElem_toArray, List.getElem_cons_succ, List.getElem_cons_zero]
  refine wpAnyH_take (i := 7) (v := ?_) rfl (by kernel_rfl) (by kernel_rfl) (by kernel_rfl) (fun _ _ _ h => h) (Or.inl ⟨by rfl, ?hy6006⟩) (by assumption) ?rest6006
  case hy6006 => intro w' hSw; go_simp; (try with_reducible rfl)
  try simp only [Act.put, List.setIfInBounds_toArray, List.set_cons_zero, List.set_cons_succ, List.getElem_toArray, List.getElem_cons_succ, List.getElem_cons_zero]
  refine wpAnyH_take (i := 8) (v := ?_) rfl (by kernel_rfl) (by kernel_rfl) (by kernel_rfl) (fun _ _ _ h => h) (Or.inl ⟨by rfl, ?hy6007⟩) (by assumption) ?rest6007
  case hy6007 => intro w' hSw; go_simp; (try with_reducible rfl)
  try simp only [Act.put, List.setIfInBounds_toArray, List.set_cons_zero, List.set_cons_succ, List.getElem_toArray, List.getElem_cons_succ, List.getElem_cons_zero]
  refine wpAnyH_done (by kernel_rfl) ?_ _
  have G1 := B3
  clear hFm
  have R2 := R1.bl G1
  have z0 := R2.cell 0; have z1 := R2.cell 1; have z2 := R2.cell 2; have z3 := R2.cell 3; have z4 := R2.cell 4; have z5 := R2.cell 5; have z6 := R2.cell 6; have z7 := R2.cell 7; have z8 := R2.cell 8; have z9 := R2.cell 9
  have cO := Lib.hid (clbuf1 (h.bl (G.trans G1)) hn 0 i r0 r1 r2 r3 H1 H2 s D m c hi he hf q1 q2 q3 q4)
  go_wp2_with fail
  refine (cO.out).mono ?_
  rintro e w3 ⟨Q', rfl, hC3, kx, hx⟩
  go_wp2
  go_ret2
  have kw : Kx (ClX v) w _ := (Kx.bl (G.trans G1))
  exact ⟨Q', rfl, hC3, kw.then kx, fun k hk => (hx k hk).imp id (Nat.le_trans (G.trans G1).size)⟩

set_option maxRecDepth 100000 in
set_option maxHeartbeats 1000000 in
theorem cldo0e (h : ClR w cb v L S n M) (i a b r0 r1 r2 r3 : Int) (s : ByteArray) (D : Option Addr) (m c : Nat) (hi : I64 i) (e0 : Int) (he : addIE 32 L i 1 = e0) (hne : e0 ≠ 0) :
    Calls Tryz.prog 37 #[.pointer (some ⟨cb, 0, none⟩), .agg #[.int .i64 0, .int .i64 i, .int .i64 a, .int .i64 b, .int .i64 r0, .int .i64 r1, .int .i64 r2, .int .i64 r3, .string s, .slice D m c]] w fun e w' => ∃ k, e = .returned (.tuple #[.slice (some ⟨k, 0, none⟩) 1 1, .slice none 0 0]) ∧ At w' k (evC 0 i e0 0) 108 ∧ ClR w' cb v L S n M ∧ Kx (ClX v) w w' := by
  go_enter Tryz.func37, Tryz.ntmps37
  go_upto_region 1 with fail
  generalize hW : World.alloc w _ = W
  have R1 : At W w.heap.size #[.int .i64 0, .int .i64 i, .int .i64 a, .int .i64 b, .int .i64 r0, .int .i64 r1, .int .i64 r2, .int .i64 r3, .string s, .slice D m c] 101 := by rw [← hW]; exact At.new w _ _
  have G : Bl w W := by rw [← hW]; exact (Bl.refl w).alloc _
  clear hW
  have SK := Lib.hid (fun (V : World) (g : Bl W V) => (show At V w.heap.size #[.int .i64 0, .int .i64 i, .int .i64 a, .int .i64 b, .int .i64 r0, .int .i64 r1, .int .i64 r2, .int .i64 r3, .string s, .slice D m c] 101 from R1.bl g))
  refine wp_region_held_drew (S := fun V => At V w.heap.size #[.int .i64 0, .int .i64 i, .int .i64 a, .int .i64 b, .int .i64 r0, .int .i64 r1, .int .i64 r2, .int .i64 r3, .string s, .slice D m c] 101) (by kernel_rfl) (SK.out _ (Bl.refl _).drew) (fun hHeld => ?_)
  have B0 : Bl W W.drew := (Bl.refl _).drew
  generalize W.drew = U0 at *
  refine wpAnyH_take (i := 1) (v := ?_) rfl (by kernel_rfl) (by kernel_rfl) (by kernel_rfl) (fun _ _ _ h => h) (Or.inl ⟨by rfl, ?hy6101⟩) (by assumption) ?rest6101
  case hy6101 => intro w' hSw; go_simp; (try with_reducible rfl)
  try simp only [Act.put, List.setIfInBounds_toArray, List.set_cons_zero, List.set_cons_succ, List.getElem_toArray, List.getElem_cons_succ, List.getElem_cons_zero]
  refine wpAnyH_take (i := 2) (v := ?_) rfl (by kernel_rfl) (by kernel_rfl) (by kernel_rfl) (fun _ _ _ h => h) (Or.inl ⟨by rfl, ?hy6102⟩) (by assumption) ?rest6102
  case hy6102 => intro w' hSw; have hc : w'.cell? ⟨w.heap.size, 0, none⟩ = some (.int .i64 0) := hSw.cell 0; go_simp; (try with_reducible rfl)
  try simp only [Act.put, List.setIfInBounds_toArray, List.set_cons_zero, List.set_cons_succ, List.getElem_toArray, List.getElem_cons_succ, List.getElem_cons_zero]
  refine wpAnyH_ready (rs := [0]) (by kernel_rfl) (by simp) (AllReadyH.cons rfl (fun K9 hK9 => ?_) AllReadyH.nil)
  go_simp
  refine (clops1 _).mono ?_
  rintro e U1 ⟨bm, rfl, hFm, g2⟩
  have B3 : Bl W U1 := Bl.trans B0 g2
  refine hK9.out _ _ (SK.out _ B3) (fun _ => ?_)
  clear hK9 K9
  try simp only [Act.put, List.setIfInBounds_toArray, List.set_cons_zero, List.set_cons_succ, List.getElem_toArray, List.getElem_cons_succ, List.getElem_cons_zero]
  refine wpAnyH_ready (rs := [3]) (by kernel_rfl) (by simp) (AllReadyH.cons rfl (fun K9 hK9 => ?_) AllReadyH.nil)
  have hlk := run_lookF (i := 0) (g := 169) hFm (by unfold I64; omega) (by kernel_rfl) (by kernel_rfl)
  go_simp
  clear hlk
  refine hK9.out _ _ (SK.out _ B3) (fun _ => ?_)
  clear hK9 K9
  try simp only [Act.put, List.setIfInBounds_toArray, List.set_cons_zero, List.set_cons_succ, List.getElem_toArray, List.getElem_cons_succ, List.getElem_cons_zero]
  refine wpAnyH_take (i := 4) (v := ?_) rfl (by kernel_rfl) (by kernel_rfl) (by kernel_rfl) (fun _ _ _ h => h) (Or.inl ⟨by rfl, ?hy6103⟩) (by assumption) ?rest6103
  case hy6103 => intro w' hSw; go_simp; (try with_reducible rfl)
  try simp only [Act.put, List.setIfInBounds_toArray, List.set_cons_zero, List.set_cons_succ, List.getElem_toArray, List.getElem_cons_succ, List.getElem_cons_zero]
  refine wpAnyH_take (i := 5) (v := ?_) rfl (by kernel_rfl) (by kernel_rfl) (by kernel_rfl) (fun _ _ _ h => h) (Or.inl ⟨by rfl, ?hy6104⟩) (by assumption) ?rest6104
  case hy6104 => intro w' hSw; go_simp; (try with_reducible rfl)
  try simp only [Act.put, List.setIfInBounds_toArray, List.set_cons_zero, List.set_cons_succ, List.getElem_toArray, List.getElem_cons_succ, List.getElem_cons_zero]
  refine wpAnyH_take (i := 6) (v := ?_) rfl (by kernel_rfl) (by kernel_rfl) (by kernel_rfl) (fun _ _ _ h => h) (Or.inl ⟨by rfl, ?hy6105⟩) (by assumption) ?rest6105
  case hy6105 => intro w' hSw; go_simp; (try with_reducible rfl)
  try simp only [Act.put, List.setIfInBounds_toArray, List.set_cons_zero, List.set_cons_succ, List.getElem_toArray, List.getElem_cons_succ, List.getElem_cons_zero]
  refine wpAnyH_take (i := 7) (v := ?_) rfl (by kernel_rfl) (by kernel_rfl) (by kernel_rfl) (fun _ _ _ h => h) (Or.inl ⟨by rfl, ?hy6106⟩) (by assumption) ?rest6106
  case hy6106 => intro w' hSw; go_simp; (try with_reducible rfl)
  try simp only [Act.put, List.setIfInBounds_toArray, List.set_cons_zero, List.set_cons_succ, List.getElem_toArray, List.getElem_cons_succ, List.getElem_cons_zero]
  refine wpAnyH_take (i := 8) (v := ?_) rfl (by kernel_rfl) (by kernel_rfl) (by kernel_rfl) (fun _ _ _ h => h) (Or.inl ⟨by rfl, ?hy6107⟩) (by assumption) ?rest6107
  case hy6107 => intro w' hSw; go_simp; (try with_reducible rfl)
  try simp only [Act.put, List.setIfInBounds_toArray, List.set_cons_zero, List.set_cons_succ, List.getElem_toArray, List.getElem_cons_succ, List.getElem_cons_zero]
  refine wpAnyH_done (by kernel_rfl) ?_ _
  have G1 := B3
  clear hFm
  have R2 := R1.bl G1
  have z0 := R2.cell 0; have z1 := R2.cell 1; have z2 := R2.cell 2; have z3 := R2.cell 3; have z4 := R2.cell 4; have z5 := R2.cell 5; have z6 := R2.cell 6; have z7 := R2.cell 7; have z8 := R2.cell 8; have z9 := R2.cell 9
  have cO := Lib.hid (clbuf0 (h.bl (G.trans G1)) 0 i a b r0 r1 r2 r3 s D m c hi e0 he hne)
  go_wp2_with fail
  refine (cO.out).mono ?_
  rintro e w3 ⟨rfl, hC3, kx⟩
  have cR := Lib.hid (clrefuse1 (some ⟨cb, 0, none⟩) 0 i a b r0 r1 r2 r3 e0 s D m c)
  have R3 := R2.kx kx (clno (h.bl (G.trans G1)) R2)
  have x0 := R3.cell 0; have x1 := R3.cell 1; have x2 := R3.cell 2; have x3 := R3.cell 3; have x4 := R3.cell 4; have x5 := R3.cell 5; have x6 := R3.cell 6; have x7 := R3.cell 7; have x8 := R3.cell 8; have x9 := R3.cell 9
  go_wp2_with fail
  refine (cR.out _).mono ?_
  rintro e w4 ⟨kk, rfl, hE, g4'⟩
  go_wp2
  go_ret2
  have kw : Kx (ClX v) w _ := (Kx.bl (G.trans G1))
  exact ⟨kk, rfl, hE, hC3.bl g4', (kw.then kx).gr g4'⟩

set_option maxRecDepth 100000 in
set_option maxHeartbeats 1000000 in
theorem cldo3a (h : ClR w cb v L S n M) (i a b r0 r1 r2 r3 : Int) (s : ByteArray) (D : Option Addr) (m c : Nat) (hi : I64 i) (he : addIE 32 L i 2 = 0) (hM : hasI M i = false) (hMl : M.length < maxLen) :
    Calls Tryz.prog 37 #[.pointer (some ⟨cb, 0, none⟩), .agg #[.int .i64 3, .int .i64 i, .int .i64 a, .int .i64 b, .int .i64 r0, .int .i64 r1, .int .i64 r2, .int .i64 r3, .string s, .slice D m c]] w fun e w' => e = .returned (.tuple #[.slice none 0 0, .slice none 0 0]) ∧ ∃ wb sb : Nat, ClR w' cb v (insL (i, 2) L) S n (insL (i, (wb : Int)) M) ∧ WinQ w' wb sb ∧ Kx (ClX v) w w' ∧ w.heap.size ≤ wb ∧ w.heap.size ≤ sb := by
  go_enter Tryz.func37, Tryz.ntmps37
  go_upto_region 1 with fail
  generalize hW : World.alloc w _ = W
  have R1 : At W w.heap.size #[.int .i64 3, .int .i64 i, .int .i64 a, .int .i64 b, .int .i64 r0, .int .i64 r1, .int .i64 r2, .int .i64 r3, .string s, .slice D m c] 101 := by rw [← hW]; exact At.new w _ _
  have G : Bl w W := by rw [← hW]; exact (Bl.refl w).alloc _
  clear hW
  have SK := Lib.hid (fun (V : World) (g : Bl W V) => (show At V w.heap.size #[.int .i64 3, .int .i64 i, .int .i64 a, .int .i64 b, .int .i64 r0, .int .i64 r1, .int .i64 r2, .int .i64 r3, .string s, .slice D m c] 101 from R1.bl g))
  refine wp_region_held_drew (S := fun V => At V w.heap.size #[.int .i64 3, .int .i64 i, .int .i64 a, .int .i64 b, .int .i64 r0, .int .i64 r1, .int .i64 r2, .int .i64 r3, .string s, .slice D m c] 101) (by kernel_rfl) (SK.out _ (Bl.refl _).drew) (fun hHeld => ?_)
  have B0 : Bl W W.drew := (Bl.refl _).drew
  generalize W.drew = U0 at *
  refine wpAnyH_take (i := 1) (v := ?_) rfl (by kernel_rfl) (by kernel_rfl) (by kernel_rfl) (fun _ _ _ h => h) (Or.inl ⟨by rfl, ?hy6201⟩) (by assumption) ?rest6201
  case hy6201 => intro w' hSw; go_simp; (try with_reducible rfl)
  try simp only [Act.put, List.setIfInBounds_toArray, List.set_cons_zero, List.set_cons_succ, List.getElem_toArray, List.getElem_cons_succ, List.getElem_cons_zero]
  refine wpAnyH_take (i := 2) (v := ?_) rfl (by kernel_rfl) (by kernel_rfl) (by kernel_rfl) (fun _ _ _ h => h) (Or.inl ⟨by rfl, ?hy6202⟩) (by assumption) ?rest6202
  case hy6202 => intro w' hSw; have hc : w'.cell? ⟨w.heap.size, 0, none⟩ = some (.int .i64 3) := hSw.cell 0; go_simp; (try with_reducible rfl)
  try simp only [Act.put, List.setIfInBounds_toArray, List.set_cons_zero, List.set_cons_succ, List.getElem_toArray, List.getElem_cons_succ, List.getElem_cons_zero]
  refine wpAnyH_ready (rs := [0]) (by kernel_rfl) (by simp) (AllReadyH.cons rfl (fun K9 hK9 => ?_) AllReadyH.nil)
  go_simp
  refine (clops1 _).mono ?_
  rintro e U1 ⟨bm, rfl, hFm, g2⟩
  have B3 : Bl W U1 := Bl.trans B0 g2
  refine hK9.out _ _ (SK.out _ B3) (fun _ => ?_)
  clear hK9 K9
  try simp only [Act.put, List.setIfInBounds_toArray, List.set_cons_zero, List.set_cons_succ, List.getElem_toArray, List.getElem_cons_succ, List.getElem_cons_zero]
  refine wpAnyH_ready (rs := [3]) (by kernel_rfl) (by simp) (AllReadyH.cons rfl (fun K9 hK9 => ?_) AllReadyH.nil)
  have hlk := run_lookF (i := 3) (g := 172) hFm (by unfold I64; omega) (by kernel_rfl) (by kernel_rfl)
  go_simp
  clear hlk
  refine hK9.out _ _ (SK.out _ B3) (fun _ => ?_)
  clear hK9 K9
  try simp only [Act.put, List.setIfInBounds_toArray, List.set_cons_zero, List.set_cons_succ, List.getElem_toArray, List.getElem_cons_succ, List.getElem_cons_zero]
  refine wpAnyH_take (i := 4) (v := ?_) rfl (by kernel_rfl) (by kernel_rfl) (by kernel_rfl) (fun _ _ _ h => h) (Or.inl ⟨by rfl, ?hy6203⟩) (by assumption) ?rest6203
  case hy6203 => intro w' hSw; go_simp; (try with_reducible rfl)
  try simp only [Act.put, List.setIfInBounds_toArray, List.set_cons_zero, List.set_cons_succ, List.getElem_toArray, List.getElem_cons_succ, List.getElem_cons_zero]
  refine wpAnyH_take (i := 5) (v := ?_) rfl (by kernel_rfl) (by kernel_rfl) (by kernel_rfl) (fun _ _ _ h => h) (Or.inl ⟨by rfl, ?hy6204⟩) (by assumption) ?rest6204
  case hy6204 => intro w' hSw; go_simp; (try with_reducible rfl)
  try simp only [Act.put, List.setIfInBounds_toArray, List.set_cons_zero, List.set_cons_succ, List.getElem_toArray, List.getElem_cons_succ, List.getElem_cons_zero]
  refine wpAnyH_take (i := 6) (v := ?_) rfl (by kernel_rfl) (by kernel_rfl) (by kernel_rfl) (fun _ _ _ h => h) (Or.inl ⟨by rfl, ?hy6205⟩) (by assumption) ?rest6205
  case hy6205 => intro w' hSw; go_simp; (try with_reducible rfl)
  try simp only [Act.put, List.setIfInBounds_toArray, List.set_cons_zero, List.set_cons_succ, List.getElem_toArray, List.getElem_cons_succ, List.getElem_cons_zero]
  refine wpAnyH_take (i := 7) (v := ?_) rfl (by kernel_rfl) (by kernel_rfl) (by kernel_rfl) (fun _ _ _ h => h) (Or.inl ⟨by rfl, ?hy6206⟩) (by assumption) ?rest6206
  case hy6206 => intro w' hSw; go_simp; (try with_reducible rfl)
  try simp only [Act.put, List.setIfInBounds_toArray, List.set_cons_zero, List.set_cons_succ, List.getElem_toArray, List.getElem_cons_succ, List.getElem_cons_zero]
  refine wpAnyH_take (i := 8) (v := ?_) rfl (by kernel_rfl) (by kernel_rfl) (by kernel_rfl) (fun _ _ _ h => h) (Or.inl ⟨by rfl, ?hy6207⟩) (by assumption) ?rest6207
  case hy6207 => intro w' hSw; go_simp; (try with_reducible rfl)
  try simp only [Act.put, List.setIfInBounds_toArray, List.set_cons_zero, List.set_cons_succ, List.getElem_toArray, List.getElem_cons_succ, List.getElem_cons_zero]
  refine wpAnyH_done (by kernel_rfl) ?_ _
  have G1 := B3
  clear hFm
  have R2 := R1.bl G1
  have z0 := R2.cell 0; have z1 := R2.cell 1; have z2 := R2.cell 2; have z3 := R2.cell 3; have z4 := R2.cell 4; have z5 := R2.cell 5; have z6 := R2.cell 6; have z7 := R2.cell 7; have z8 := R2.cell 8; have z9 := R2.cell 9
  have cO := Lib.hid (clsurf1 (h.bl (G.trans G1)) 3 i a b r0 r1 r2 r3 s D m c hi he hM hMl)
  go_wp2_with fail
  refine (cO.out).mono ?_
  rintro e w3 ⟨rfl, wb, sb, hC3, hW3, kx, l1, l2⟩
  go_wp2
  go_ret2
  have kw : Kx (ClX v) w _ := (Kx.bl (G.trans G1))
  exact ⟨rfl, wb, sb, hC3, hW3, kw.then kx, Nat.le_trans (G.trans G1).size l1, Nat.le_trans (G.trans G1).size l2⟩

set_option maxRecDepth 100000 in
set_option maxHeartbeats 1000000 in
theorem cldo3e (h : ClR w cb v L S n M) (i a b r0 r1 r2 r3 : Int) (s : ByteArray) (D : Option Addr) (m c : Nat) (hi : I64 i) (e0 : Int) (he : addIE 32 L i 2 = e0) (hne : e0 ≠ 0) :
    Calls Tryz.prog 37 #[.pointer (some ⟨cb, 0, none⟩), .agg #[.int .i64 3, .int .i64 i, .int .i64 a, .int .i64 b, .int .i64 r0, .int .i64 r1, .int .i64 r2, .int .i64 r3, .string s, .slice D m c]] w fun e w' => ∃ k, e = .returned (.tuple #[.slice (some ⟨k, 0, none⟩) 1 1, .slice none 0 0]) ∧ At w' k (evC 0 i e0 3) 108 ∧ ClR w' cb v L S n M ∧ Kx (ClX v) w w' := by
  go_enter Tryz.func37, Tryz.ntmps37
  go_upto_region 1 with fail
  generalize hW : World.alloc w _ = W
  have R1 : At W w.heap.size #[.int .i64 3, .int .i64 i, .int .i64 a, .int .i64 b, .int .i64 r0, .int .i64 r1, .int .i64 r2, .int .i64 r3, .string s, .slice D m c] 101 := by rw [← hW]; exact At.new w _ _
  have G : Bl w W := by rw [← hW]; exact (Bl.refl w).alloc _
  clear hW
  have SK := Lib.hid (fun (V : World) (g : Bl W V) => (show At V w.heap.size #[.int .i64 3, .int .i64 i, .int .i64 a, .int .i64 b, .int .i64 r0, .int .i64 r1, .int .i64 r2, .int .i64 r3, .string s, .slice D m c] 101 from R1.bl g))
  refine wp_region_held_drew (S := fun V => At V w.heap.size #[.int .i64 3, .int .i64 i, .int .i64 a, .int .i64 b, .int .i64 r0, .int .i64 r1, .int .i64 r2, .int .i64 r3, .string s, .slice D m c] 101) (by kernel_rfl) (SK.out _ (Bl.refl _).drew) (fun hHeld => ?_)
  have B0 : Bl W W.drew := (Bl.refl _).drew
  generalize W.drew = U0 at *
  refine wpAnyH_take (i := 1) (v := ?_) rfl (by kernel_rfl) (by kernel_rfl) (by kernel_rfl) (fun _ _ _ h => h) (Or.inl ⟨by rfl, ?hy6301⟩) (by assumption) ?rest6301
  case hy6301 => intro w' hSw; go_simp; (try with_reducible rfl)
  try simp only [Act.put, List.setIfInBounds_toArray, List.set_cons_zero, List.set_cons_succ, List.getElem_toArray, List.getElem_cons_succ, List.getElem_cons_zero]
  refine wpAnyH_take (i := 2) (v := ?_) rfl (by kernel_rfl) (by kernel_rfl) (by kernel_rfl) (fun _ _ _ h => h) (Or.inl ⟨by rfl, ?hy6302⟩) (by assumption) ?rest6302
  case hy6302 => intro w' hSw; have hc : w'.cell? ⟨w.heap.size, 0, none⟩ = some (.int .i64 3) := hSw.cell 0; go_simp; (try with_reducible rfl)
  try simp only [Act.put, List.setIfInBounds_toArray, List.set_cons_zero, List.set_cons_succ, List.getElem_toArray, List.getElem_cons_succ, List.getElem_cons_zero]
  refine wpAnyH_ready (rs := [0]) (by kernel_rfl) (by simp) (AllReadyH.cons rfl (fun K9 hK9 => ?_) AllReadyH.nil)
  go_simp
  refine (clops1 _).mono ?_
  rintro e U1 ⟨bm, rfl, hFm, g2⟩
  have B3 : Bl W U1 := Bl.trans B0 g2
  refine hK9.out _ _ (SK.out _ B3) (fun _ => ?_)
  clear hK9 K9
  try simp only [Act.put, List.setIfInBounds_toArray, List.set_cons_zero, List.set_cons_succ, List.getElem_toArray, List.getElem_cons_succ, List.getElem_cons_zero]
  refine wpAnyH_ready (rs := [3]) (by kernel_rfl) (by simp) (AllReadyH.cons rfl (fun K9 hK9 => ?_) AllReadyH.nil)
  have hlk := run_lookF (i := 3) (g := 172) hFm (by unfold I64; omega) (by kernel_rfl) (by kernel_rfl)
  go_simp
  clear hlk
  refine hK9.out _ _ (SK.out _ B3) (fun _ => ?_)
  clear hK9 K9
  try simp only [Act.put, List.setIfInBounds_toArray, List.set_cons_zero, List.set_cons_succ, List.getElem_toArray, List.getElem_cons_succ, List.getElem_cons_zero]
  refine wpAnyH_take (i := 4) (v := ?_) rfl (by kernel_rfl) (by kernel_rfl) (by kernel_rfl) (fun _ _ _ h => h) (Or.inl ⟨by rfl, ?hy6303⟩) (by assumption) ?rest6303
  case hy6303 => intro w' hSw; go_simp; (try with_reducible rfl)
  try simp only [Act.put, List.setIfInBounds_toArray, List.set_cons_zero, List.set_cons_succ, List.getElem_toArray, List.getElem_cons_succ, List.getElem_cons_zero]
  refine wpAnyH_take (i := 5) (v := ?_) rfl (by kernel_rfl) (by kernel_rfl) (by kernel_rfl) (fun _ _ _ h => h) (Or.inl ⟨by rfl, ?hy6304⟩) (by assumption) ?rest6304
  case hy6304 => intro w' hSw; go_simp; (try with_reducible rfl)
  try simp only [Act.put, List.setIfInBounds_toArray, List.set_cons_zero, List.set_cons_succ, List.getElem_toArray, List.getElem_cons_succ, List.getElem_cons_zero]
  refine wpAnyH_take (i := 6) (v := ?_) rfl (by kernel_rfl) (by kernel_rfl) (by kernel_rfl) (fun _ _ _ h => h) (Or.inl ⟨by rfl, ?hy6305⟩) (by assumption) ?rest6305
  case hy6305 => intro w' hSw; go_simp; (try with_reducible rfl)
  try simp only [Act.put, List.setIfInBounds_toArray, List.set_cons_zero, List.set_cons_succ, List.getElem_toArray, List.getElem_cons_succ, List.getElem_cons_zero]
  refine wpAnyH_take (i := 7) (v := ?_) rfl (by kernel_rfl) (by kernel_rfl) (by kernel_rfl) (fun _ _ _ h => h) (Or.inl ⟨by rfl, ?hy6306⟩) (by assumption) ?rest6306
  case hy6306 => intro w' hSw; go_simp; (try with_reducible rfl)
  try simp only [Act.put, List.setIfInBounds_toArray, List.set_cons_zero, List.set_cons_succ, List.getElem_toArray, List.getElem_cons_succ, List.getElem_cons_zero]
  refine wpAnyH_take (i := 8) (v := ?_) rfl (by kernel_rfl) (by kernel_rfl) (by kernel_rfl) (fun _ _ _ h => h) (Or.inl ⟨by rfl, ?hy6307⟩) (by assumption) ?rest6307
  case hy6307 => intro w' hSw; go_simp; (try with_reducible rfl)
  try simp only [Act.put, List.setIfInBounds_toArray, List.set_cons_zero, List.set_cons_succ, List.getElem_toArray, List.getElem_cons_succ, List.getElem_cons_zero]
  refine wpAnyH_done (by kernel_rfl) ?_ _
  have G1 := B3
  clear hFm
  have R2 := R1.bl G1
  have z0 := R2.cell 0; have z1 := R2.cell 1; have z2 := R2.cell 2; have z3 := R2.cell 3; have z4 := R2.cell 4; have z5 := R2.cell 5; have z6 := R2.cell 6; have z7 := R2.cell 7; have z8 := R2.cell 8; have z9 := R2.cell 9
  have cO := Lib.hid (clsurf0 (h.bl (G.trans G1)) 3 i a b r0 r1 r2 r3 s D m c hi e0 he hne)
  go_wp2_with fail
  refine (cO.out).mono ?_
  rintro e w3 ⟨rfl, hC3, kx⟩
  have cR := Lib.hid (clrefuse1 (some ⟨cb, 0, none⟩) 3 i a b r0 r1 r2 r3 e0 s D m c)
  have R3 := R2.kx kx (clno (h.bl (G.trans G1)) R2)
  have x0 := R3.cell 0; have x1 := R3.cell 1; have x2 := R3.cell 2; have x3 := R3.cell 3; have x4 := R3.cell 4; have x5 := R3.cell 5; have x6 := R3.cell 6; have x7 := R3.cell 7; have x8 := R3.cell 8; have x9 := R3.cell 9
  go_wp2_with fail
  refine (cR.out _).mono ?_
  rintro e w4 ⟨kk, rfl, hE, g4'⟩
  go_wp2
  go_ret2
  have kw : Kx (ClX v) w _ := (Kx.bl (G.trans G1))
  exact ⟨kk, rfl, hE, hC3.bl g4', (kw.then kx).gr g4'⟩

set_option maxRecDepth 100000 in
set_option maxHeartbeats 1000000 in
theorem cldo16 (h : ClR w cb v L S n M) (i a b r0 r1 r2 r3 : Int) (s : ByteArray) (D : Option Addr) (m c : Nat) (hi : I64 i) (wb sb : Nat) (hf : findE L i 2 = 0) (hk : kindL M i = wb) (hm : hasI M i = true) (hW : WinQ w wb sb) :
    Calls Tryz.prog 37 #[.pointer (some ⟨cb, 0, none⟩), .agg #[.int .i64 16, .int .i64 i, .int .i64 a, .int .i64 b, .int .i64 r0, .int .i64 r1, .int .i64 r2, .int .i64 r3, .string s, .slice D m c]] w fun e w' => ∃ (k : Nat) (A9 : Option Addr) (c9 : Nat) (A3 : Option Addr) (nD c3 : Nat), e = .returned (.tuple #[.slice none 0 0, .slice (some ⟨k, 0, none⟩) 1 1]) ∧ At w' k #[.int .i64 0, .int .i64 i, .pointer none, .int .i64 0, .int .i64 0, .int .i64 1, .int .i64 255, .int .i64 (-1048576), .int .i64 (-1048576), .int .i64 1048576, .int .i64 1048576, .slice A9 0 c9, .string ⟨#[]⟩, .slice A3 nD c3, .slice none 0 0, .int .i64 (-1), .int .i64 0, .int .i64 0, .int .i64 0, .int .i64 0] 121 ∧ Kx (fun k => k = sb ∨ k = wb) w w' := by
  go_enter Tryz.func37, Tryz.ntmps37
  go_upto_region 1 with fail
  generalize hW : World.alloc w _ = W
  have R1 : At W w.heap.size #[.int .i64 16, .int .i64 i, .int .i64 a, .int .i64 b, .int .i64 r0, .int .i64 r1, .int .i64 r2, .int .i64 r3, .string s, .slice D m c] 101 := by rw [← hW]; exact At.new w _ _
  have G : Bl w W := by rw [← hW]; exact (Bl.refl w).alloc _
  clear hW
  have SK := Lib.hid (fun (V : World) (g : Bl W V) => (show At V w.heap.size #[.int .i64 16, .int .i64 i, .int .i64 a, .int .i64 b, .int .i64 r0, .int .i64 r1, .int .i64 r2, .int .i64 r3, .string s, .slice D m c] 101 from R1.bl g))
  refine wp_region_held_drew (S := fun V => At V w.heap.size #[.int .i64 16, .int .i64 i, .int .i64 a, .int .i64 b, .int .i64 r0, .int .i64 r1, .int .i64 r2, .int .i64 r3, .string s, .slice D m c] 101) (by kernel_rfl) (SK.out _ (Bl.refl _).drew) (fun hHeld => ?_)
  have B0 : Bl W W.drew := (Bl.refl _).drew
  generalize W.drew = U0 at *
  refine wpAnyH_take (i := 1) (v := ?_) rfl (by kernel_rfl) (by kernel_rfl) (by kernel_rfl) (fun _ _ _ h => h) (Or.inl ⟨by rfl, ?hy6401⟩) (by assumption) ?rest6401
  case hy6401 => intro w' hSw; go_simp; (try with_reducible rfl)
  try simp only [Act.put, List.setIfInBounds_toArray, List.set_cons_zero, List.set_cons_succ, List.getElem_toArray, List.getElem_cons_succ, List.getElem_cons_zero]
  refine wpAnyH_take (i := 2) (v := ?_) rfl (by kernel_rfl) (by kernel_rfl) (by kernel_rfl) (fun _ _ _ h => h) (Or.inl ⟨by rfl, ?hy6402⟩) (by assumption) ?rest6402
  case hy6402 => intro w' hSw; have hc : w'.cell? ⟨w.heap.size, 0, none⟩ = some (.int .i64 16) := hSw.cell 0; go_simp; (try with_reducible rfl)
  try simp only [Act.put, List.setIfInBounds_toArray, List.set_cons_zero, List.set_cons_succ, List.getElem_toArray, List.getElem_cons_succ, List.getElem_cons_zero]
  refine wpAnyH_ready (rs := [0]) (by kernel_rfl) (by simp) (AllReadyH.cons rfl (fun K9 hK9 => ?_) AllReadyH.nil)
  go_simp
  refine (clops1 _).mono ?_
  rintro e U1 ⟨bm, rfl, hFm, g2⟩
  have B3 : Bl W U1 := Bl.trans B0 g2
  refine hK9.out _ _ (SK.out _ B3) (fun _ => ?_)
  clear hK9 K9
  try simp only [Act.put, List.setIfInBounds_toArray, List.set_cons_zero, List.set_cons_succ, List.getElem_toArray, List.getElem_cons_succ, List.getElem_cons_zero]
  refine wpAnyH_ready (rs := [3]) (by kernel_rfl) (by simp) (AllReadyH.cons rfl (fun K9 hK9 => ?_) AllReadyH.nil)
  have hlk := run_lookF (i := 16) (g := 185) hFm (by unfold I64; omega) (by kernel_rfl) (by kernel_rfl)
  go_simp
  clear hlk
  refine hK9.out _ _ (SK.out _ B3) (fun _ => ?_)
  clear hK9 K9
  try simp only [Act.put, List.setIfInBounds_toArray, List.set_cons_zero, List.set_cons_succ, List.getElem_toArray, List.getElem_cons_succ, List.getElem_cons_zero]
  refine wpAnyH_take (i := 4) (v := ?_) rfl (by kernel_rfl) (by kernel_rfl) (by kernel_rfl) (fun _ _ _ h => h) (Or.inl ⟨by rfl, ?hy6403⟩) (by assumption) ?rest6403
  case hy6403 => intro w' hSw; go_simp; (try with_reducible rfl)
  try simp only [Act.put, List.setIfInBounds_toArray, List.set_cons_zero, List.set_cons_succ, List.getElem_toArray, List.getElem_cons_succ, List.getElem_cons_zero]
  refine wpAnyH_take (i := 5) (v := ?_) rfl (by kernel_rfl) (by kernel_rfl) (by kernel_rfl) (fun _ _ _ h => h) (Or.inl ⟨by rfl, ?hy6404⟩) (by assumption) ?rest6404
  case hy6404 => intro w' hSw; go_simp; (try with_reducible rfl)
  try simp only [Act.put, List.setIfInBounds_toArray, List.set_cons_zero, List.set_cons_succ, List.getElem_toArray, List.getElem_cons_succ, List.getElem_cons_zero]
  refine wpAnyH_take (i := 6) (v := ?_) rfl (by kernel_rfl) (by kernel_rfl) (by kernel_rfl) (fun _ _ _ h => h) (Or.inl ⟨by rfl, ?hy6405⟩) (by assumption) ?rest6405
  case hy6405 => intro w' hSw; go_simp; (try with_reducible rfl)
  try simp only [Act.put, List.setIfInBounds_toArray, List.set_cons_zero, List.set_cons_succ, List.getElem_toArray, List.getElem_cons_succ, List.getElem_cons_zero]
  refine wpAnyH_take (i := 7) (v := ?_) rfl (by kernel_rfl) (by kernel_rfl) (by kernel_rfl) (fun _ _ _ h => h) (Or.inl ⟨by rfl, ?hy6406⟩) (by assumption) ?rest6406
  case hy6406 => intro w' hSw; go_simp; (try with_reducible rfl)
  try simp only [Act.put, List.setIfInBounds_toArray, List.set_cons_zero, List.set_cons_succ, List.getElem_toArray, List.getElem_cons_succ, List.getElem_cons_zero]
  refine wpAnyH_take (i := 8) (v := ?_) rfl (by kernel_rfl) (by kernel_rfl) (by kernel_rfl) (fun _ _ _ h => h) (Or.inl ⟨by rfl, ?hy6407⟩) (by assumption) ?rest6407
  case hy6407 => intro w' hSw; go_simp; (try with_reducible rfl)
  try simp only [Act.put, List.setIfInBounds_toArray, List.set_cons_zero, List.set_cons_succ, List.getElem_toArray, List.getElem_cons_succ, List.getElem_cons_zero]
  refine wpAnyH_done (by kernel_rfl) ?_ _
  have G1 := B3
  clear hFm
  have R2 := R1.bl G1
  have z0 := R2.cell 0; have z1 := R2.cell 1; have z2 := R2.cell 2; have z3 := R2.cell 3; have z4 := R2.cell 4; have z5 := R2.cell 5; have z6 := R2.cell 6; have z7 := R2.cell 7; have z8 := R2.cell 8; have z9 := R2.cell 9
  have cO := Lib.hid (clcommit0 (h.bl (G.trans G1)) 16 i a b r0 r1 r2 r3 s D m c hi wb sb hf hk hm ⟨hW.1.bl (G.trans G1), hW.2.bl (G.trans G1)⟩)
  go_wp2_with fail
  refine (cO.out).mono ?_
  rintro e w3 ⟨kk, A9, c9, A3, nD, c3, rfl, hE, kx⟩
  go_wp2
  go_ret2
  have kw : Kx (ClX v) w _ := (Kx.bl (G.trans G1))
  exact ⟨kk, A9, c9, A3, nD, c3, rfl, hE, (Kx.bl (G.trans G1)).then kx⟩

end

end Go.Proofs.YtablogiielclaaaGreat
namespace Go.Proofs.YtablogiielclaaaGreat
open Go.ChangeShapes Go.WideShapes Go.ChangeAt Go.RowKit Go.Joins Go.Sort Go.Deep Go.Maps

theorem clas1 (op i a b r0 r1 r2 r3 : Int) (s : ByteArray) (D : Option Addr) (m c : Nat) (w : World) :
    Calls Tryz.prog 38 #[.agg #[.int .i64 op, .int .i64 i, .int .i64 a, .int .i64 b, .int .i64 r0, .int .i64 r1, .int .i64 r2, .int .i64 r3, .string s, .slice D m c]] w (fun e w' => e = .returned (.agg #[.int .i64 op, .int .i64 i, .int .i64 a, .int .i64 b, .int .i64 r0, .int .i64 r1, .int .i64 r2, .int .i64 r3, .string s, .slice D m c]) ∧ Bl w w') := by
  go_enter Tryz.func38, Tryz.ntmps38
  go_wp2
  exact bodyPost_ret (results_cell_row rfl _ _ (w.heap.size + 1) _ #[.int .i64 op, .int .i64 i, .int .i64 a, .int .i64 b, .int .i64 r0, .int .i64 r1, .int .i64 r2, .int .i64 r3, .string s, .slice D m c] (0, 0) _ rfl (At.newAt (by simp) _ _) Tryz.underlying101 rfl (by kernel_rfl)) rfl ⟨rfl, ((Bl.refl _).alloc _).alloc _⟩
set_option maxRecDepth 100000 in
theorem clevents1 (k q : Nat) (x i a b : Int) (w : World) (hA : At w k #[.int .i64 x, .int .i64 i, .int .i64 a, .int .i64 b] 108) (hB : At w q #[.int .i64 x, .int .i64 i, .int .i64 a, .int .i64 b] 114) :
    Calls Tryz.prog 39 #[.slice (some ⟨k, 0, none⟩) 1 1, .slice (some ⟨q, 0, none⟩) 1 1] w (Rt w (.bool true)) := by
  have a0 := fun n os => hA.cells n os 0
  have a1 := fun n os => hA.cells n os 1
  have a2 := fun n os => hA.cells n os 2
  have a3 := fun n os => hA.cells n os 3
  have b0 := fun n os => hB.cells n os 0
  have b1 := fun n os => hB.cells n os 1
  have b2 := fun n os => hB.cells n os 2
  have b3 := fun n os => hB.cells n os 3
  go_enter Tryz.func39, Tryz.ntmps39
  go_wp2
  refine wp_loop_rounds 2 ?_
  rw [rounds_succ]
  go_wp2_with fail
  refine wp_region_quiet_grown (by kernel_rfl) (by kernel_rfl) ?_
  repeat (first | go_big_quiet_step (fail) | quiet_step (fail))
  refine wpQuiet_nil ?_
  intro w2 g2
  go_wp2
  rw [rounds_succ]
  go_wp2
  go_ret
  exact ⟨rfl, g2⟩
set_option maxRecDepth 100000 in
theorem cllives1 (w : World) : Calls Tryz.prog 42 #[] w (fun e w' => e = .returned (.bool true) ∧ Bl w w') := by
  go_enter Tryz.func42, Tryz.ntmps42
  go_wp2_with fail
  refine (clnew1 _).mono ?_
  rintro e w1 ⟨cb, v, rfl, hC, g1, _, hx⟩
  have cS := Lib.hid (cldo3a hC 1 0 0 0 0 0 0 ⟨#[]⟩ none 0 0 (by unfold I64; omega) (by decide) rfl (by unfold maxLen; decide))
  go_wp2_with fail
  refine (cS.out).mono ?_
  rintro e w2 ⟨rfl, wb, sb, hC2, hW2, k2, l1, l2⟩
  have cM := Lib.hid (cldo16 hC2 1 0 0 0 0 0 0 ⟨#[]⟩ none 0 0 (by unfold I64; omega) wb sb (by decide) (by simp [insL, kindL]) (by simp [insL, hasI]) hW2)
  go_wp2_with fail
  refine (cM.out).mono ?_
  rintro e w3 ⟨k, A9, c9, A3, nD, c3, rfl, hE, k3⟩
  have e0 := fun n os => hE.cells n os 0
  have e2 := fun n os => hE.cells n os 2
  have e15 := fun n os => hE.cells n os 15
  have f0 := hE.cell 0
  have f2 := hE.cell 2
  have f15 := hE.cell 15
  go_wp2
  go_ret
  have b2 := k2.under hx g1
  exact ⟨rfl, k3.under (fun j hj => by rcases hj with rfl | rfl; exact Nat.le_trans g1.size l2; exact Nat.le_trans g1.size l1) b2⟩

end Go.Proofs.YtablogiielclaaaGreat
namespace Go.Proofs.YtablogiielclaaaGreat
open Go.RowKit Go.Sort

/-- The ids behind k requests, the first N of them buffers. -/
def qId (N j : Nat) : Ik := (1 + (j : Int), if j < N then 1 else 2)
def Lq (N k : Nat) : List Ik := (List.range (min k 32)).map (qId N)
theorem Lq_len (N k : Nat) : (Lq N k).length = min k 32 := by simp [Lq]
theorem Lq_lt {N k : Nat} {p : Ik} (h : p ∈ Lq N k) : p.1 < 1 + (k : Int) := by
  obtain ⟨j, hj, rfl⟩ := List.mem_map.1 h
  have := List.mem_range.1 hj
  unfold qId
  dsimp only
  omega
theorem hasI_new {L : List Ik} {i : Int} (h : ∀ p ∈ L, p.1 < i) : hasI L i = false := by
  unfold hasI
  rw [List.any_eq_false]
  intro p hp e
  have := h p hp
  simp at e
  omega
theorem insL_new (x : Ik) : ∀ {L : List Ik}, (∀ p ∈ L, p.1 < x.1) → insL x L = L ++ [x]
  | [], _ => rfl
  | y :: r, h => by
    have h1 := h y (by simp)
    have ih := insL_new x (L := r) (fun p hp => h p (by simp [hp]))
    unfold insL
    rw [if_neg (by omega), ih]
    rfl
theorem Lq_succ {N k : Nat} (hk : k < 32) : insL (1 + (k : Int), if k < N then 1 else 2) (Lq N k) = Lq N (k + 1) := by
  rw [insL_new _ fun p hp => Lq_lt hp]
  unfold Lq
  rw [show min (k + 1) 32 = min k 32 + 1 by omega, List.range_succ, List.map_append, show min k 32 = k by omega]
  rfl
theorem Lq_full {N k : Nat} (hk : ¬ k < 32) : Lq N (k + 1) = Lq N k := by
  unfold Lq
  rw [show min (k + 1) 32 = min k 32 by omega]
theorem add_ok {N k : Nat} (hk : k < 32) {t : Int} (ht : t = 1 ∨ t = 2) : addIE 32 (Lq N k) (1 + (k : Int)) t = 0 := by
  rw [addIE_ok (by omega), hasI_new fun p hp => Lq_lt hp, if_neg (by simp), if_neg (by rw [Lq_len]; omega)]
theorem add_full {N k : Nat} (hk : ¬ k < 32) (hb : k ≤ 100) {t : Int} (ht : t = 1 ∨ t = 2) : addIE 32 (Lq N k) (1 + (k : Int)) t = 10 := by
  rw [addIE_ok (by omega), hasI_new fun p hp => Lq_lt hp, if_neg (by simp), if_pos (by rw [Lq_len]; omega)]
theorem cnt_below (N : Nat) : ∀ t : Nat, ((List.range t).filter fun j => decide (j < N)).length = min t N
  | 0 => by simp
  | t + 1 => by
    rw [List.range_succ, List.filter_append, List.length_append, cnt_below N t]
    by_cases h : t < N
    · simp [h]; omega
    · simp [h]; omega
theorem cnt_above (N : Nat) : ∀ t : Nat, ((List.range t).filter fun j => decide (¬ j < N)).length = t - min t N
  | 0 => by simp
  | t + 1 => by
    rw [List.range_succ, List.filter_append, List.length_append, cnt_above N t]
    by_cases h : N ≤ t
    · simp [h]; omega
    · simp [h]; omega
theorem ofL_one (N k : Nat) : (ofL (Lq N k) 1).length = min (min k 32) N := by
  unfold ofL Lq
  rw [List.length_map, List.filter_map, List.length_map, ← cnt_below N (min k 32)]
  congr 1
  apply List.filter_congr
  intro j _
  simp only [Function.comp, qId]
  by_cases h : j < N <;> simp [h]
theorem ofL_two (N k : Nat) : (ofL (Lq N k) 2).length = min k 32 - min (min k 32) N := by
  unfold ofL Lq
  rw [List.length_map, List.filter_map, List.length_map, ← cnt_above N (min k 32)]
  congr 1
  apply List.filter_congr
  intro j _
  simp only [Function.comp, qId]
  by_cases h : j < N <;> simp [h]
theorem plF_new {i : Int} : ∀ {S : List Bf}, (∀ s ∈ S, s.id < i) → plF i S = none
  | [], _ => rfl
  | s :: S, h => by
    unfold plF
    rw [if_neg (fun e => by have := h s (by simp); omega), plF_new fun s hs => h s (by simp [hs])]
    rfl
theorem insL_mem {x p : Ik} : ∀ {L : List Ik}, p ∈ insL x L → p = x ∨ p ∈ L
  | [], h => by simp [insL] at h; exact .inl h
  | y :: r, h => by
    unfold insL at h
    split at h
    · rcases List.mem_cons.1 h with h | h
      · exact .inl h
      · exact .inr h
    · rcases List.mem_cons.1 h with h | h
      · exact .inr (by simp [h])
      · rcases insL_mem h with h | h
        · exact .inl h
        · exact .inr (by simp [h])
/-- A client behind k requests. -/
structure QuR (w wr : World) (cb N k : Nat) (v : Cv) (S : List Bf) (t : Nat) (M : List Ik) : Prop where
  c : ClR wr cb v (Lq N k) S t M
  g : Bl w wr
  x : ∀ j, ClX v j → w.heap.size ≤ j
  t : t ≤ k
  s : ∀ s ∈ S, s.id < 1 + (k : Int)
  m : ∀ p ∈ M, p.1 < 1 + (k : Int)
  l : M.length ≤ k
theorem QuR.up {w wr : World} {cb N k : Nat} {v : Cv} {S : List Bf} {t : Nat} {M : List Ik} (h : QuR w wr cb N k v S t M) {w' : World} (hk : ¬ k < 32) (c : ClR w' cb v (Lq N k) S t M) (kx : Kx (ClX v) wr w') : QuR w w' cb N (k + 1) v S t M :=
  ⟨by rw [Lq_full hk]; exact c, kx.under h.x h.g, h.x, Nat.le_succ_of_le h.t, fun s hs => by have := h.s s hs; omega, fun p hp => by have := h.m p hp; omega, Nat.le_succ_of_le h.l⟩
theorem QuR.buf {w wr : World} {cb N k : Nat} {v : Cv} {S : List Bf} {t : Nat} {M : List Ik} (h : QuR w wr cb N k v S t M) {w' : World} {Q' : List Pq} (hk : k < 32) (hN : k < N) (c : ClR w' cb { v with Q := Q' } (insL (1 + (k : Int), 1) (Lq N k)) (S ++ [newB (1 + (k : Int)) 1 1]) (t + 1) M) (kx : Kx (ClX v) wr w') (hx : ∀ j, ClX { v with Q := Q' } j → ClX v j ∨ wr.heap.size ≤ j) : QuR w w' cb N (k + 1) { v with Q := Q' } (S ++ [newB (1 + (k : Int)) 1 1]) (t + 1) M := by
  refine ⟨?_, kx.under h.x h.g, fun j hj => ?_, Nat.succ_le_succ h.t, fun s hs => ?_, fun p hp => by have := h.m p hp; omega, Nat.le_succ_of_le h.l⟩
  · rw [← Lq_succ hk, if_pos hN]; exact c
  · rcases hx j hj with h' | h'
    · exact h.x j h'
    · exact Nat.le_trans h.g.size h'
  · rcases List.mem_append.1 hs with hs | hs
    · have := h.s s hs; omega
    · rw [List.mem_singleton] at hs
      rw [hs]
      simp [newB]
      omega
theorem QuR.surf {w wr : World} {cb N k : Nat} {v : Cv} {S : List Bf} {t : Nat} {M : List Ik} (h : QuR w wr cb N k v S t M) {w' : World} {wb : Nat} (hk : k < 32) (hN : ¬ k < N) (c : ClR w' cb v (insL (1 + (k : Int), 2) (Lq N k)) S t (insL (1 + (k : Int), (wb : Int)) M)) (kx : Kx (ClX v) wr w') : QuR w w' cb N (k + 1) v S t (insL (1 + (k : Int), (wb : Int)) M) := by
  refine ⟨?_, kx.under h.x h.g, h.x, Nat.le_succ_of_le h.t, fun s hs => by have := h.s s hs; omega, fun p hp => ?_, ?_⟩
  · rw [← Lq_succ hk, if_neg hN]; exact c
  · rcases insL_mem hp with rfl | hp
    · dsimp only; omega
    · have := h.m p hp; omega
  · rw [insL_len]; have := h.l; omega

end Go.Proofs.YtablogiielclaaaGreat
namespace Go.Proofs.YtablogiielclaaaGreat
open Go.ChangeShapes Go.WideShapes Go.ChangeAt Go.RowKit Go.Joins Go.Sort Go.Deep Go.Maps

theorem clnoR {w1 : World} {cb n : Nat} {v : Cv} {L : List Ik} {S : List Bf} {M : List Ik} (h : ClR w1 cb v L S n M) {b : Nat} {cs : Array Value} (hb : At w1 b cs 91) : ¬ ClX v b := by
  rintro (rfl | rfl | hk)
  · exact h.tb.mp.no _ _ hb
  · exact h.wd.no _ _ hb
  · exact h.pl.notT hb (by decide) (by decide) (by decide) hk
theorem qu_meas {k m : Nat} (h : k < m) : m - ((k : Int) + 1).toNat < m - ((k : Nat) : Int).toNat := by omega
theorem qu_id {k : Nat} (h : k ≤ 100) : I64 (1 + (k : Int)) := by unfold I64; omega
theorem qu_32 {N : Nat} (h : N ≤ 40) : wrap64 (32 - (N : Int)) = 32 - (N : Int) ∧ IntKind.i64.wrap (32 - (N : Int)) = 32 - (N : Int) := ⟨by unfold wrap64; omega, IntWalk.i64_in _ (by omega)⟩
theorem qu_step {k : Nat} (h : k ≤ 100) : wrap64 (1 + (k : Int)) = 1 + (k : Int) ∧ IntKind.i64.wrap (1 + (k : Int)) = 1 + (k : Int) ∧ wrap64 ((k : Int) + 1) = (k : Int) + 1 ∧ IntKind.i64.wrap ((k : Int) + 1) = (k : Int) + 1 := ⟨by unfold wrap64; omega, IntWalk.i64_in _ (by omega), by unfold wrap64; omega, IntWalk.i64_in _ (by omega)⟩
theorem clbuffers1 {w : World} {cb n : Nat} {v : Cv} {L : List Ik} {S : List Bf} {M : List Ik} (h : ClR w cb v L S n M) :
    Calls Tryz.prog 48 #[.pointer (some ⟨cb, 0, none⟩)] w fun e w' => ∃ A c, e = .returned (.slice A (ofL L 1).length c) ∧ Bl w w' := by
  have c0 := h.hd.cell 0
  have cO := Lib.hid (idOf1 h.tb 1)
  go_enter Tryz.func48, Tryz.ntmps48
  go_wp2_with fail
  refine (cO.out).mono ?_
  rintro e w1 ⟨A, c, rfl, _, g⟩
  go_wp2
  go_ret
  exact ⟨A, c, rfl, g⟩
theorem clsurfaces1 {w : World} {cb n : Nat} {v : Cv} {L : List Ik} {S : List Bf} {M : List Ik} (h : ClR w cb v L S n M) :
    Calls Tryz.prog 49 #[.pointer (some ⟨cb, 0, none⟩)] w fun e w' => ∃ A c, e = .returned (.slice A (ofL L 2).length c) ∧ Bl w w' := by
  have c0 := h.hd.cell 0
  have cO := Lib.hid (idOf1 h.tb 2)
  go_enter Tryz.func49, Tryz.ntmps49
  go_wp2_with fail
  refine (cO.out).mono ?_
  rintro e w1 ⟨A, c, rfl, _, g⟩
  go_wp2
  go_ret
  exact ⟨A, c, rfl, g⟩
section
attribute [local go_sem ↓] run_min2 run_max2
set_option maxRecDepth 100000 in
set_option maxHeartbeats 8000000 in
theorem clquota_walk (n m : Int) (w : World) (hn : I64 n) (hm : I64 m) :
    Calls Tryz.prog 10 #[.int .i64 n, .int .i64 m] w (fun e w' => e = .returned (.bool true) ∧ Bl w w') := by
  obtain ⟨N, hN, hN41⟩ : ∃ N : Nat, around n 41 = (N : Int) ∧ N ≤ 40 := ⟨(around n 41).toNat, by have := around_bd n 41 (by omega); omega, by have := around_bd n 41 (by omega); omega⟩
  obtain ⟨P, hP, hP41⟩ : ∃ P : Nat, around m 41 = (P : Int) ∧ P ≤ 40 := ⟨(around m 41).toNat, by have := around_bd m 41 (by omega); omega, by have := around_bd m 41 (by omega); omega⟩
  have cN := Lib.hid (fun (V : World) => (show Calls Tryz.prog 47 #[.int .i64 n, .int .i64 41] V (fun e w' => e = .returned (.int .i64 (N : Int)) ∧ V = w') from by have := around1 n 41 V hn (by omega); rw [hN] at this; exact this))
  have cP := Lib.hid (fun (V : World) => (show Calls Tryz.prog 47 #[.int .i64 m, .int .i64 41] V (fun e w' => e = .returned (.int .i64 (P : Int)) ∧ V = w') from by have := around1 m 41 V hm (by omega); rw [hP] at this; exact this))
  clear hN hP hn hm
  obtain ⟨T, hT⟩ : ∃ T, T = N + P := ⟨_, rfl⟩
  have hT80 : T ≤ 80 := by omega
  have wNP : wrap64 ((N : Int) + (P : Int)) = (T : Int) := by rw [hT]; unfold wrap64; omega
  have wNP' : IntKind.i64.wrap ((N : Int) + (P : Int)) = (T : Int) := by rw [hT, IntWalk.i64_in _ (by omega)]; omega
  replace hT := Lib.hid hT
  replace wNP := Lib.hid wNP
  replace wNP' := Lib.hid wNP'
  go_enter Tryz.func10, Tryz.ntmps10
  go_wp2_with fail
  refine (clnew1 _).mono ?_
  rintro e w0 ⟨cb, v0, rfl, hC, g0, _, hx⟩
  go_wp2_with fail
  refine (cN.out _).mono ?_
  rintro e w' ⟨rfl, rfl⟩
  go_wp2_with fail
  refine (cP.out _).mono ?_
  rintro e w' ⟨rfl, rfl⟩
  clear cN cP
  have hq0 := Lib.hid (show QuR w w0 cb N 0 v0 [] 0 [] from ⟨hC, g0, hx, Nat.le_refl _, fun s hs => (by cases hs), fun p hp => (by cases hp), Nat.le_refl _⟩)
  clear hC g0 hx
  go_wp2
  go_loopw [6] (fun iv wr => ∃ (k : Nat) (v : Cv) (S : List Bf) (t : Nat) (M : List Ik), k ≤ T ∧ iv = .int .i64 (k : Int) ∧ QuR w wr cb N k v S t M) (fun iv _ => T - (intOf iv).toNat)
  case atStart => exact ⟨0, v0, [], 0, [], Nat.zero_le _, rfl, hq0.out⟩
  case round =>
    obtain ⟨k, v, S, t, M, hkT, rfl, hq⟩ := hrel
    clear hq0
    by_cases hlt : k < T
    · have hltI : (k : Int) < (T : Int) := by omega
      have hk100 : k ≤ 100 := by omega
      have hi1 := qu_id hk100
      have hst := Lib.hid (qu_step hk100)
      by_cases hkN : k < N
      · have hkNI : ¬ (N : Int) ≤ (k : Int) := by omega
        by_cases h32 : k < 32
        case pos =>
          have h32I : (k : Int) < 32 := by omega
          have cD := Lib.hid (fun (V : World) (g : Bl wr V) => cldo0a (hq.c.bl g) (by have := hq.t; omega) (1 + (k : Int)) 0 0 0 0 1 1 ⟨#[]⟩ none 0 0 hi1 (add_ok h32 (.inl rfl)) (plF_new hq.s) (by omega) (by omega) (by omega) (by omega))
          have cA := Lib.hid (fun (V : World) => clas1 0 (1 + (k : Int)) 1 1 0 0 0 0 ⟨#[]⟩ none 0 0 V)
          replace hq := Lib.hid hq
          obtain ⟨w1a, w1b, w1c, w1d⟩ := hst.out
          have wS1 := wNP.out
          have wS2 := wNP'.out
          clear hst wNP wNP' hi1 hk100 hN41 hP41 hT80 hkT
          go_upto_region 12 with fail
          generalize hW : World.alloc wr _ = W
          have R1 : At W wr.heap.size #[.int .i64 0, .int .i64 (1 + (k : Int)), .int .i64 1, .int .i64 1, .int .i64 0, .int .i64 0, .int .i64 0, .int .i64 0, .string ⟨#[]⟩, .slice none 0 0] 91 := by rw [← hW]; exact At.new wr _ _
          have G : Bl wr W := by rw [← hW]; exact (Bl.refl wr).alloc _
          clear hW
          have z0 := R1.cell 0; have z1 := R1.cell 1; have z2 := R1.cell 2; have z3 := R1.cell 3; have z4 := R1.cell 4; have z5 := R1.cell 5; have z6 := R1.cell 6; have z7 := R1.cell 7; have z8 := R1.cell 8; have z9 := R1.cell 9
          go_wp2_with fail
          refine (cA.out _).mono ?_
          rintro e w1 ⟨rfl, g1⟩
          go_wp2_with fail
          refine (cD.out _ (G.trans g1)).mono ?_
          rintro e w2 ⟨Q', rfl, hC2, kx, hx⟩
          clear z0 z1 z2 z3 z4 z5 z6 z7 z8 z9 cA cD
          go_wp2
          go_roundw
          case rel => exact ⟨k + 1, _, _, _, _, Nat.succ_le_of_lt hlt, by go_num, hq.out.buf h32 hkN hC2 ((Kx.bl (G.trans g1)).then kx) (fun j hj => (hx j hj).imp id (Nat.le_trans (G.trans g1).size))⟩
          case measure => exact qu_meas hlt
        case neg =>
          have h32I : ¬ (k : Int) < 32 := by omega
          have cD := Lib.hid (fun (V : World) (g : Bl wr V) => cldo0e (hq.c.bl g) (1 + (k : Int)) 1 1 0 0 0 0 ⟨#[]⟩ none 0 0 hi1 10 (add_full h32 hk100 (.inl rfl)) (by decide))
          have cA := Lib.hid (fun (V : World) => clas1 0 (1 + (k : Int)) 1 1 0 0 0 0 ⟨#[]⟩ none 0 0 V)
          replace hq := Lib.hid hq
          obtain ⟨w1a, w1b, w1c, w1d⟩ := hst.out
          have wS1 := wNP.out
          have wS2 := wNP'.out
          clear hst wNP wNP' hi1 hk100 hN41 hP41 hT80 hkT
          go_upto_region 12 with fail
          generalize hW : World.alloc wr _ = W
          have R1 : At W wr.heap.size #[.int .i64 0, .int .i64 (1 + (k : Int)), .int .i64 1, .int .i64 1, .int .i64 0, .int .i64 0, .int .i64 0, .int .i64 0, .string ⟨#[]⟩, .slice none 0 0] 91 := by rw [← hW]; exact At.new wr _ _
          have G : Bl wr W := by rw [← hW]; exact (Bl.refl wr).alloc _
          clear hW
          have z0 := R1.cell 0; have z1 := R1.cell 1; have z2 := R1.cell 2; have z3 := R1.cell 3; have z4 := R1.cell 4; have z5 := R1.cell 5; have z6 := R1.cell 6; have z7 := R1.cell 7; have z8 := R1.cell 8; have z9 := R1.cell 9
          go_wp2_with fail
          refine (cA.out _).mono ?_
          rintro e w1 ⟨rfl, g1⟩
          go_wp2_with fail
          refine (cD.out _ (G.trans g1)).mono ?_
          rintro e w2 ⟨q, rfl, hE, hC2, kx⟩
          have R2 := (R1.bl g1).kx kx (clnoR (hq.out.c.bl (G.trans g1)) (R1.bl g1))
          clear z0 z1 z2 z3 z4 z5 z6 z7 z8 z9 cA cD
          have z0 := R2.cell 0
          unfold evC at hE
          have cE := Lib.hid (fun (V : World) (b : Nat) (g : Bl w2 V) (hB : At V b #[.int .i64 0, .int .i64 (1 + (k : Int)), .int .i64 10, .int .i64 0] 114) => clevents1 q b 0 (1 + (k : Int)) 10 0 V (hE.bl g) hB)
          go_wp2_with fail
          refine (cE.out _ _ ((Bl.refl _).alloc _) (At.new _ _ _)).mono ?_
          rintro e w3 ⟨rfl, g3⟩
          clear cE z0
          have g4 : Bl w2 w3 := ((Bl.refl w2).alloc _).trans g3.bl
          go_wp2
          go_roundw
          case rel => exact ⟨k + 1, _, _, _, _, Nat.succ_le_of_lt hlt, by go_num, hq.out.up h32 (hC2.bl g4) (((Kx.bl (G.trans g1)).then kx).gr g4)⟩
          case measure => exact qu_meas hlt
      · have hkNI : (N : Int) ≤ (k : Int) := by omega
        by_cases h32 : k < 32
        case pos =>
          have h32I : (k : Int) < 32 := by omega
          have cD := Lib.hid (fun (V : World) (g : Bl wr V) => cldo3a (hq.c.bl g) (1 + (k : Int)) 0 0 0 0 0 0 ⟨#[]⟩ none 0 0 hi1 (add_ok h32 (.inr rfl)) (hasI_new hq.m) (by have := hq.l; unfold maxLen; omega))
          have cA := Lib.hid (fun (V : World) => clas1 3 (1 + (k : Int)) 0 0 0 0 0 0 ⟨#[]⟩ none 0 0 V)
          replace hq := Lib.hid hq
          obtain ⟨w1a, w1b, w1c, w1d⟩ := hst.out
          have wS1 := wNP.out
          have wS2 := wNP'.out
          clear hst wNP wNP' hi1 hk100 hN41 hP41 hT80 hkT
          go_upto_region 12 with fail
          generalize hW : World.alloc wr _ = W
          have R1 : At W wr.heap.size #[.int .i64 3, .int .i64 (1 + (k : Int)), .int .i64 0, .int .i64 0, .int .i64 0, .int .i64 0, .int .i64 0, .int .i64 0, .string ⟨#[]⟩, .slice none 0 0] 91 := by rw [← hW]; exact At.new wr _ _
          have G : Bl wr W := by rw [← hW]; exact (Bl.refl wr).alloc _
          clear hW
          have z0 := R1.cell 0; have z1 := R1.cell 1; have z2 := R1.cell 2; have z3 := R1.cell 3; have z4 := R1.cell 4; have z5 := R1.cell 5; have z6 := R1.cell 6; have z7 := R1.cell 7; have z8 := R1.cell 8; have z9 := R1.cell 9
          go_wp2_with fail
          refine (cA.out _).mono ?_
          rintro e w1 ⟨rfl, g1⟩
          go_wp2_with fail
          refine (cD.out _ (G.trans g1)).mono ?_
          rintro e w2 ⟨rfl, wb, sb, hC2, _, kx, _, _⟩
          clear z0 z1 z2 z3 z4 z5 z6 z7 z8 z9 cA cD
          go_wp2
          go_roundw
          case rel => exact ⟨k + 1, _, _, _, _, Nat.succ_le_of_lt hlt, by go_num, hq.out.surf h32 hkN hC2 ((Kx.bl (G.trans g1)).then kx)⟩
          case measure => exact qu_meas hlt
        case neg =>
          have h32I : ¬ (k : Int) < 32 := by omega
          have cD := Lib.hid (fun (V : World) (g : Bl wr V) => cldo3e (hq.c.bl g) (1 + (k : Int)) 0 0 0 0 0 0 ⟨#[]⟩ none 0 0 hi1 10 (add_full h32 hk100 (.inr rfl)) (by decide))
          have cA := Lib.hid (fun (V : World) => clas1 3 (1 + (k : Int)) 0 0 0 0 0 0 ⟨#[]⟩ none 0 0 V)
          replace hq := Lib.hid hq
          obtain ⟨w1a, w1b, w1c, w1d⟩ := hst.out
          have wS1 := wNP.out
          have wS2 := wNP'.out
          clear hst wNP wNP' hi1 hk100 hN41 hP41 hT80 hkT
          go_upto_region 12 with fail
          generalize hW : World.alloc wr _ = W
          have R1 : At W wr.heap.size #[.int .i64 3, .int .i64 (1 + (k : Int)), .int .i64 0, .int .i64 0, .int .i64 0, .int .i64 0, .int .i64 0, .int .i64 0, .string ⟨#[]⟩, .slice none 0 0] 91 := by rw [← hW]; exact At.new wr _ _
          have G : Bl wr W := by rw [← hW]; exact (Bl.refl wr).alloc _
          clear hW
          have z0 := R1.cell 0; have z1 := R1.cell 1; have z2 := R1.cell 2; have z3 := R1.cell 3; have z4 := R1.cell 4; have z5 := R1.cell 5; have z6 := R1.cell 6; have z7 := R1.cell 7; have z8 := R1.cell 8; have z9 := R1.cell 9
          go_wp2_with fail
          refine (cA.out _).mono ?_
          rintro e w1 ⟨rfl, g1⟩
          go_wp2_with fail
          refine (cD.out _ (G.trans g1)).mono ?_
          rintro e w2 ⟨q, rfl, hE, hC2, kx⟩
          have R2 := (R1.bl g1).kx kx (clnoR (hq.out.c.bl (G.trans g1)) (R1.bl g1))
          clear z0 z1 z2 z3 z4 z5 z6 z7 z8 z9 cA cD
          have z0 := R2.cell 0
          unfold evC at hE
          have cE := Lib.hid (fun (V : World) (b : Nat) (g : Bl w2 V) (hB : At V b #[.int .i64 0, .int .i64 (1 + (k : Int)), .int .i64 10, .int .i64 3] 114) => clevents1 q b 0 (1 + (k : Int)) 10 3 V (hE.bl g) hB)
          go_wp2_with fail
          refine (cE.out _ _ ((Bl.refl _).alloc _) (At.new _ _ _)).mono ?_
          rintro e w3 ⟨rfl, g3⟩
          clear cE z0
          have g4 : Bl w2 w3 := ((Bl.refl w2).alloc _).trans g3.bl
          go_wp2
          go_roundw
          case rel => exact ⟨k + 1, _, _, _, _, Nat.succ_le_of_lt hlt, by go_num, hq.out.up h32 (hC2.bl g4) (((Kx.bl (G.trans g1)).then kx).gr g4)⟩
          case measure => exact qu_meas hlt
    · obtain rfl : k = T := by omega
      have cB := Lib.hid (clbuffers1 hq.c)
      have cS := Lib.hid (fun (V : World) (g : Bl wr V) => clsurfaces1 (hq.c.bl g))
      have hg := hq.g
      obtain ⟨b1, hb1⟩ : ∃ x : Nat, (ofL (Lq N k) 1).length = x := ⟨_, rfl⟩
      obtain ⟨b2, hb2⟩ : ∃ x : Nat, (ofL (Lq N k) 2).length = x := ⟨_, rfl⟩
      rw [hb1] at cB
      rw [hb2] at cS
      have e1 : (b1 : Int) = min (N : Int) 32 := by have := ofL_one N k; have := hT.out; omega
      have e2 : (b2 : Int) = min (P : Int) (max (32 - (N : Int)) 0) := by have := ofL_two N k; have := hT.out; omega
      have hNk : ¬ (k : Int) < (k : Int) := by omega
      obtain ⟨e3, e4⟩ := qu_32 hN41
      have wS1 := wNP.out
      have wS2 := wNP'.out
      clear hb1 hb2 hq wNP wNP' hT80 hN41 hP41 hkT hlt
      go_wp2_with fail
      refine (cB.out).mono ?_
      rintro e u1 ⟨AB, cB1, rfl, g1⟩
      go_wp2_with fail
      refine (cS.out _ g1).mono ?_
      rintro e u2 ⟨AS, cS1, rfl, g2⟩
      go_wp2_with fail
      refine (cllives1 _).mono ?_
      rintro e u3 ⟨rfl, g3⟩
      go_wp2
      go_ret
      exact ⟨rfl, ((hg.trans g1).trans g2).trans g3⟩
end

end Go.Proofs.YtablogiielclaaaGreat
