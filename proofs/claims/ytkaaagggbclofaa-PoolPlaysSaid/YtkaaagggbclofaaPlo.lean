/-
  What is proved: what a deed of the kinds 2 and 3 leaves of a pool and of the document's. Conditions: at most 1000 buffers, none held more than 1000 times.
-/
import Derived.Test.YtkaaagggbclofaaPln
namespace Go.Proofs.Ytkaaagggbclofaa
open Go.ChangeShapes Go.WideShapes Go.ChangeAt Go.RowKit Go.Joins Go.Sort Go.Deep Go.Maps

section
variable {w : World} {pp nb bb j c : Nat} {Q : List Pq} {S : List Bf} {A : Option Addr} {D : List Db}
set_option maxRecDepth 100000 in
set_option maxHeartbeats 2000000 in
theorem plDoes2 (h : PlR w pp nb bb Q S j) (hd : DcR w A c D S) (hX : DcX (PlX pp nb bb Q) A D) (hj : j ≤ 1000) (_k i n m p r s t : Int) (Ab : Option Addr) (bs : List Int) (lb cap : Nat) (hlb : lb = bs.length) (gi : I64 i) (gn : I64 n) (_gm : I64 m) (_gA : Ns .u8 w Ab bs) (_g8 : ∀ x ∈ bs, U8 x) (_glc : bs.length ≤ cap) (_gcm : cap ≤ maxLen) :
    Calls Try.prog 8 #[.pointer (some ⟨pp, 0, none⟩), .agg #[.slice A D.length c], .agg #[.int .i64 2, .int .i64 i, .int .i64 n, .int .i64 m, .int .i64 p, .int .i64 r, .int .i64 s, .int .i64 t, .slice Ab lb cap]] w (DoesQ w pp nb bb Q A D (j + 1)) := by
  replace hlb := Lib.hid hlb
  have hX2 : DcX (fun k => PlX pp nb bb Q k ∨ k = (w.heap.size + 2)) A D := hX.grow hd h.ok (fun j hj => by rcases hj with h | h; exact .inl h; right; omega)
  have hxl : ∀ k, PlX pp nb bb Q k → k < w.heap.size := fun k hk => h.xlt hk
  have g0 := (((Gr.refl w).alloc (.cells #[.slice A D.length c] 27)).alloc (.cells #[.int .i64 2, .int .i64 i, .int .i64 n, .int .i64 m, .int .i64 p, .int .i64 r, .int .i64 s, .int .i64 t, .slice Ab lb cap] 34)).alloc (.cells #[.slice none 0 0] 27)
  have P0 := ((At.new w #[.slice A D.length c] 27).alloc (.cells #[.int .i64 2, .int .i64 i, .int .i64 n, .int .i64 m, .int .i64 p, .int .i64 r, .int .i64 s, .int .i64 t, .slice Ab lb cap] 34)).alloc (.cells #[.slice none 0 0] 27)
  have E0 := (At.newAt (w := w.alloc (.cells #[.slice A D.length c] 27)) (n := w.heap.size + 1) (by simp) #[.int .i64 2, .int .i64 i, .int .i64 n, .int .i64 m, .int .i64 p, .int .i64 r, .int .i64 s, .int .i64 t, .slice Ab lb cap] 34).alloc (.cells #[.slice none 0 0] 27)
  have R0 := At.newAt (w := (w.alloc (.cells #[.slice A D.length c] 27)).alloc (.cells #[.int .i64 2, .int .i64 i, .int .i64 n, .int .i64 m, .int .i64 p, .int .i64 r, .int .i64 s, .int .i64 t, .slice Ab lb cap] 34)) (n := (w.heap.size + 2)) (by simp) #[.slice none 0 0] 27
  have hsz0 : ((((w.alloc (.cells #[.slice A D.length c] 27)).alloc (.cells #[.int .i64 2, .int .i64 i, .int .i64 n, .int .i64 m, .int .i64 p, .int .i64 r, .int .i64 s, .int .i64 t, .slice Ab lb cap] 34)).alloc (.cells #[.slice none 0 0] 27))).heap.size = w.heap.size + 3 := by simp
  have ok := h.ok
  have hIb := around_bd i 4 (by omega)
  have hNb := around_bd n 10 (by omega)
  have hIi : I64 (around i 4) := by unfold I64; omega
  have hNi : I64 (around n 10 - 1) := by unfold I64; omega
  have cI := fun V => around1 i 4 V gi (by omega)
  have cN := fun V => around1 n 10 V gn (by omega)
  have sN : IntKind.i64.wrap (around n 10 - 1) = around n 10 - 1 := IntWalk.i64_in _ (by omega)
  have sN2 : wrap64 (around n 10 - 1) = around n 10 - 1 := by unfold wrap64; omega
  have hNl : -1 ≤ around n 10 - 1 := by omega
  generalize around i 4 = I at *
  generalize hN1 : around n 10 = N1 at *
  replace hN1 := Lib.hid hN1
  generalize hN2 : N1 - 1 = N at *
  have tN : IntKind.i64.wrap (N1 - 1) = N := by rw [hN2]; exact sN
  have tN2 : wrap64 (N1 - 1) = N := by rw [hN2]; exact sN2
  clear sN sN2
  replace hN2 := Lib.hid hN2
  have cD := Lib.hid (rDestroy12 (n := j) (hd.bl g0.bl) ok hj (I))
  have cP := Lib.hid (fun (V : World) (g : Bl w V) => plDestroy1 (h.bl g) hj I hIi)
  generalize fiE S I = ev at *
  generalize dsS S I = S2 at *
  clear hIb hNb hd hX h
  go_enter Try.func8, Try.ntmps8
  go_wp2_with fail
  refine (cI _).mono ?_
  rintro e w' ⟨rfl, rfl⟩
  go_wp2_with fail
  refine (cN _).mono ?_
  rintro e w' ⟨rfl, rfl⟩
  have p0 := P0.cell 0
  have e1 := E0.cell 0
  go_wp2_with fail
  refine cD.out.mono ?_
  rintro e v2 ⟨A', c', D', rfl, hD2, g2, hXX⟩
  have hX3 := hXX (fun k => PlX pp nb bb Q k ∨ k = (w.heap.size + 2)) (fun k hk => by rcases hk with h | h; have := hxl k h; omega; omega) hX2
  have hXY := fun (X : Nat → Prop) (hx : ∀ k, X k → k < w.heap.size) => hXX X (fun k hk => Nat.lt_of_lt_of_le (hx k hk) g0.size)
  have G4 := (g0.bl.trans g2).alloc (.cells #[.slice A' D'.length c'] 27)
  have N4 := At.new v2 #[.slice A' D'.length c'] 27
  have R4 := (R0.bl g2).alloc (.cells #[.slice A' D'.length c'] 27)
  have E4 := (E0.bl g2).alloc (.cells #[.slice A' D'.length c'] 27)
  have hD4 := hD2.bl ((Bl.refl v2).alloc (.cells #[.slice A' D'.length c'] 27))
  have hnx : (w.heap.size + 2) < v2.heap.size := (R0.bl g2).lt
  generalize hW4 : v2.alloc (.cells #[.slice A' D'.length c'] 27) = W4 at *
  have SK := Lib.hid (fun (V : World) (g : Kx (fun k => PlX pp nb bb Q k ∨ k = (w.heap.size + 2)) W4 V) => (show V.cell? ⟨v2.heap.size, 0, none⟩ = some (.slice A' D'.length c') ∧ Kx (fun k => PlX pp nb bb Q k ∨ k = (w.heap.size + 2)) W4 V from ⟨(N4.kx g (by rintro (h | h); (have := hxl _ h; omega); omega)).cell 0, g⟩))
  have cP4 := Lib.hid (fun (V : World) (g : Bl W4 V) => cP.out V (G4.trans g))
  have hR4 := Lib.hid (fun (V : World) (g : Kx (PlX pp nb bb Q) W4 V) => R4.kx g (fun h => by have := hxl _ h; omega))
  have n0 := N4.cell 0
  have r0 := R4.cell 0
  have rf := R4.free 0
  have hrbw : w.heap.size ≤ (w.heap.size + 2) := by omega
  clear p0 e1 P0 R0 E0 cD cP g0 hsz0 cI cN hXX hxl N4 R4 E4 hnx
  go_upto_region 15 with fail
  try rw [hW4]
  clear r0 rf n0
  replace hW4 := Lib.hid hW4
  go_region_held3 (fun V => V.cell? ⟨v2.heap.size, 0, none⟩ = some (.slice A' D'.length c') ∧ Kx (fun k => PlX pp nb bb Q k ∨ k = (w.heap.size + 2)) W4 V) ((refine SK.out _ ?_; repeat (first | with_reducible assumption | with_reducible exact Kx.refl _ _ | with_reducible exact K7 | with_reducible exact Kx.then K7 (Kx.by (By.set (p := ⟨(w.heap.size + 2), 0, none⟩) (By.refl _ _) _) (.inr rfl)) | with_reducible exact Kx.gr (Kx.refl _ _) (Bl.refl _).drew))) ((first | (go_at_call 14; (refine (cP4.out _ (by first | with_reducible exact Bl.refl _ | with_reducible exact (Bl.refl _).drew)).mono ?_); rintro e V7 ⟨rfl, hP7, k7⟩; have k7' : Kx (PlX pp nb bb Q) W4 V7 := (by first | with_reducible exact k7 | exact Kx.then (Kx.bl (Bl.refl W4).drew) k7); have K7 : Kx (fun k => PlX pp nb bb Q k ∨ k = (w.heap.size + 2)) W4 V7 := ⟨k7'.os, k7'.tape, k7'.output, k7'.size, fun j hj hx => k7'.block j hj (fun h => hx (.inl h))⟩; have R7 := hR4.out V7 k7'; have r70 := R7.cell 0; have r7f := R7.free 0) | fail))
  have d0 := (R7.put 0 (.slice A' D'.length c')).cell 0
  simp at d0
  go_wp2
  exact bodyPost_ret (v := .tuple #[.agg #[.slice A' D'.length c'], .bool true]) (by simp [results, Try.results8, go_sem, d0]) rfl (DoesQ.fin G4 hrbw R7 _ k7' hP7 hD4 hX3 (fun _ => .inl) hXY)

set_option maxRecDepth 100000 in
set_option maxHeartbeats 2000000 in
theorem plDoes3 (h : PlR w pp nb bb Q S j) (hd : DcR w A c D S) (hX : DcX (PlX pp nb bb Q) A D) (hj : j ≤ 1000) (_k i n m p r s t : Int) (Ab : Option Addr) (bs : List Int) (lb cap : Nat) (hlb : lb = bs.length) (gi : I64 i) (gn : I64 n) (_gm : I64 m) (_gA : Ns .u8 w Ab bs) (_g8 : ∀ x ∈ bs, U8 x) (_glc : bs.length ≤ cap) (_gcm : cap ≤ maxLen) :
    Calls Try.prog 8 #[.pointer (some ⟨pp, 0, none⟩), .agg #[.slice A D.length c], .agg #[.int .i64 3, .int .i64 i, .int .i64 n, .int .i64 m, .int .i64 p, .int .i64 r, .int .i64 s, .int .i64 t, .slice Ab lb cap]] w (DoesQ w pp nb bb Q A D (j + 1)) := by
  replace hlb := Lib.hid hlb
  have hX2 : DcX (fun k => PlX pp nb bb Q k ∨ k = (w.heap.size + 2)) A D := hX.grow hd h.ok (fun j hj => by rcases hj with h | h; exact .inl h; right; omega)
  have hxl : ∀ k, PlX pp nb bb Q k → k < w.heap.size := fun k hk => h.xlt hk
  have g0 := (((Gr.refl w).alloc (.cells #[.slice A D.length c] 27)).alloc (.cells #[.int .i64 3, .int .i64 i, .int .i64 n, .int .i64 m, .int .i64 p, .int .i64 r, .int .i64 s, .int .i64 t, .slice Ab lb cap] 34)).alloc (.cells #[.slice none 0 0] 27)
  have P0 := ((At.new w #[.slice A D.length c] 27).alloc (.cells #[.int .i64 3, .int .i64 i, .int .i64 n, .int .i64 m, .int .i64 p, .int .i64 r, .int .i64 s, .int .i64 t, .slice Ab lb cap] 34)).alloc (.cells #[.slice none 0 0] 27)
  have E0 := (At.newAt (w := w.alloc (.cells #[.slice A D.length c] 27)) (n := w.heap.size + 1) (by simp) #[.int .i64 3, .int .i64 i, .int .i64 n, .int .i64 m, .int .i64 p, .int .i64 r, .int .i64 s, .int .i64 t, .slice Ab lb cap] 34).alloc (.cells #[.slice none 0 0] 27)
  have R0 := At.newAt (w := (w.alloc (.cells #[.slice A D.length c] 27)).alloc (.cells #[.int .i64 3, .int .i64 i, .int .i64 n, .int .i64 m, .int .i64 p, .int .i64 r, .int .i64 s, .int .i64 t, .slice Ab lb cap] 34)) (n := (w.heap.size + 2)) (by simp) #[.slice none 0 0] 27
  have hsz0 : ((((w.alloc (.cells #[.slice A D.length c] 27)).alloc (.cells #[.int .i64 3, .int .i64 i, .int .i64 n, .int .i64 m, .int .i64 p, .int .i64 r, .int .i64 s, .int .i64 t, .slice Ab lb cap] 34)).alloc (.cells #[.slice none 0 0] 27))).heap.size = w.heap.size + 3 := by simp
  have ok := h.ok
  have hIb := around_bd i 4 (by omega)
  have hNb := around_bd n 10 (by omega)
  have hIi : I64 (around i 4) := by unfold I64; omega
  have hNi : I64 (around n 10 - 1) := by unfold I64; omega
  have cI := fun V => around1 i 4 V gi (by omega)
  have cN := fun V => around1 n 10 V gn (by omega)
  have sN : IntKind.i64.wrap (around n 10 - 1) = around n 10 - 1 := IntWalk.i64_in _ (by omega)
  have sN2 : wrap64 (around n 10 - 1) = around n 10 - 1 := by unfold wrap64; omega
  have hNl : -1 ≤ around n 10 - 1 := by omega
  generalize around i 4 = I at *
  generalize hN1 : around n 10 = N1 at *
  replace hN1 := Lib.hid hN1
  generalize hN2 : N1 - 1 = N at *
  have tN : IntKind.i64.wrap (N1 - 1) = N := by rw [hN2]; exact sN
  have tN2 : wrap64 (N1 - 1) = N := by rw [hN2]; exact sN2
  clear sN sN2
  replace hN2 := Lib.hid hN2
  have cD := Lib.hid (rHold12 (n := j) (hd.bl g0.bl) ok hj N hNi)
  have cP := Lib.hid (fun (V : World) (g : Bl w V) => plHold1 (h.bl g) hj N hNi)
  generalize hoE S N = ev at *
  generalize hoS S N = S2 at *
  clear hIb hNb hd hX h
  go_enter Try.func8, Try.ntmps8
  go_wp2_with fail
  refine (cI _).mono ?_
  rintro e w' ⟨rfl, rfl⟩
  go_wp2_with fail
  refine (cN _).mono ?_
  rintro e w' ⟨rfl, rfl⟩
  have p0 := P0.cell 0
  have e1 := E0.cell 0
  go_wp2_with fail
  refine cD.out.mono ?_
  rintro e v2 ⟨A', c', D', rfl, hD2, g2, hXX⟩
  have hX3 := hXX (fun k => PlX pp nb bb Q k ∨ k = (w.heap.size + 2)) (fun k hk => by rcases hk with h | h; have := hxl k h; omega; omega) hX2
  have hXY := fun (X : Nat → Prop) (hx : ∀ k, X k → k < w.heap.size) => hXX X (fun k hk => Nat.lt_of_lt_of_le (hx k hk) g0.size)
  have G4 := (g0.bl.trans g2).alloc (.cells #[.slice A' D'.length c'] 27)
  have N4 := At.new v2 #[.slice A' D'.length c'] 27
  have R4 := (R0.bl g2).alloc (.cells #[.slice A' D'.length c'] 27)
  have E4 := (E0.bl g2).alloc (.cells #[.slice A' D'.length c'] 27)
  have hD4 := hD2.bl ((Bl.refl v2).alloc (.cells #[.slice A' D'.length c'] 27))
  have hnx : (w.heap.size + 2) < v2.heap.size := (R0.bl g2).lt
  generalize hW4 : v2.alloc (.cells #[.slice A' D'.length c'] 27) = W4 at *
  have SK := Lib.hid (fun (V : World) (g : Kx (fun k => PlX pp nb bb Q k ∨ k = (w.heap.size + 2)) W4 V) => (show V.cell? ⟨v2.heap.size, 0, none⟩ = some (.slice A' D'.length c') ∧ Kx (fun k => PlX pp nb bb Q k ∨ k = (w.heap.size + 2)) W4 V from ⟨(N4.kx g (by rintro (h | h); (have := hxl _ h; omega); omega)).cell 0, g⟩))
  have cP4 := Lib.hid (fun (V : World) (g : Bl W4 V) => cP.out V (G4.trans g))
  have hR4 := Lib.hid (fun (V : World) (g : Kx (PlX pp nb bb Q) W4 V) => R4.kx g (fun h => by have := hxl _ h; omega))
  have n0 := N4.cell 0
  have r0 := R4.cell 0
  have rf := R4.free 0
  have hrbw : w.heap.size ≤ (w.heap.size + 2) := by omega
  clear p0 e1 P0 R0 E0 cD cP g0 hsz0 cI cN hXX hxl N4 R4 E4 hnx
  go_upto_region 18 with fail
  try rw [hW4]
  clear r0 rf n0
  replace hW4 := Lib.hid hW4
  go_region_held3 (fun V => V.cell? ⟨v2.heap.size, 0, none⟩ = some (.slice A' D'.length c') ∧ Kx (fun k => PlX pp nb bb Q k ∨ k = (w.heap.size + 2)) W4 V) ((refine SK.out _ ?_; repeat (first | with_reducible assumption | with_reducible exact Kx.refl _ _ | with_reducible exact K7 | with_reducible exact Kx.then K7 (Kx.by (By.set (p := ⟨(w.heap.size + 2), 0, none⟩) (By.refl _ _) _) (.inr rfl)) | with_reducible exact Kx.gr (Kx.refl _ _) (Bl.refl _).drew))) ((first | (go_at_call 13; (refine (cP4.out _ (by first | with_reducible exact Bl.refl _ | with_reducible exact (Bl.refl _).drew)).mono ?_); rintro e V7 ⟨rfl, hP7, k7⟩; have k7' : Kx (PlX pp nb bb Q) W4 V7 := (by first | with_reducible exact k7 | exact Kx.then (Kx.bl (Bl.refl W4).drew) k7); have K7 : Kx (fun k => PlX pp nb bb Q k ∨ k = (w.heap.size + 2)) W4 V7 := ⟨k7'.os, k7'.tape, k7'.output, k7'.size, fun j hj hx => k7'.block j hj (fun h => hx (.inl h))⟩; have R7 := hR4.out V7 k7'; have r70 := R7.cell 0; have r7f := R7.free 0) | fail))
  have d0 := (R7.put 0 (.slice A' D'.length c')).cell 0
  simp at d0
  go_wp2
  exact bodyPost_ret (v := .tuple #[.agg #[.slice A' D'.length c'], .bool true]) (by simp [results, Try.results8, go_sem, d0]) rfl (DoesQ.fin G4 hrbw R7 _ k7' hP7 hD4 hX3 (fun _ => .inl) hXY)
end

end Go.Proofs.Ytkaaagggbclofaa
