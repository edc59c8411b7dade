/-
  What is proved: what a deed of the kinds 0 and 4 leaves of a pool and of the document's. Conditions: at most 1000 buffers, none held more than 1000 times.
-/
import Derived.Test.YtkaaagggbclofaaPln
namespace Go.Proofs.Ytkaaagggbclofaa
open Go.ChangeShapes Go.WideShapes Go.ChangeAt Go.RowKit Go.Joins Go.Sort Go.Deep Go.Maps

section
variable {w : World} {pp nb bb j c : Nat} {Q : List Pq} {S : List Bf} {A : Option Addr} {D : List Db}
set_option maxRecDepth 100000 in
set_option maxHeartbeats 2000000 in
theorem plDoes0 (h : PlR w pp nb bb Q S j) (hd : DcR w A c D S) (hX : DcX (PlX pp nb bb Q) A D) (hj : j ≤ 1000) (_k i n m p r s t : Int) (Ab : Option Addr) (bs : List Int) (lb cap : Nat) (hlb : lb = bs.length) (gi : I64 i) (gn : I64 n) (gm : I64 m) (_gA : Ns .u8 w Ab bs) (_g8 : ∀ x ∈ bs, U8 x) (_glc : bs.length ≤ cap) (_gcm : cap ≤ maxLen) :
    Calls Try.prog 8 #[.pointer (some ⟨pp, 0, none⟩), .agg #[.slice A D.length c], .agg #[.int .i64 0, .int .i64 i, .int .i64 n, .int .i64 m, .int .i64 p, .int .i64 r, .int .i64 s, .int .i64 t, .slice Ab lb cap]] w (DoesQ w pp nb bb Q A D (j + 1)) := by
  replace hlb := Lib.hid hlb
  have hX2 : DcX (fun k => PlX pp nb bb Q k ∨ k = (w.heap.size + 2)) A D := hX.grow hd h.ok (fun j hj => by rcases hj with h | h; exact .inl h; right; omega)
  have hxl : ∀ k, PlX pp nb bb Q k → k < w.heap.size := fun k hk => h.xlt hk
  have g0 := (((Gr.refl w).alloc (.cells #[.slice A D.length c] 27)).alloc (.cells #[.int .i64 0, .int .i64 i, .int .i64 n, .int .i64 m, .int .i64 p, .int .i64 r, .int .i64 s, .int .i64 t, .slice Ab lb cap] 34)).alloc (.cells #[.slice none 0 0] 27)
  have P0 := ((At.new w #[.slice A D.length c] 27).alloc (.cells #[.int .i64 0, .int .i64 i, .int .i64 n, .int .i64 m, .int .i64 p, .int .i64 r, .int .i64 s, .int .i64 t, .slice Ab lb cap] 34)).alloc (.cells #[.slice none 0 0] 27)
  have E0 := (At.newAt (w := w.alloc (.cells #[.slice A D.length c] 27)) (n := w.heap.size + 1) (by simp) #[.int .i64 0, .int .i64 i, .int .i64 n, .int .i64 m, .int .i64 p, .int .i64 r, .int .i64 s, .int .i64 t, .slice Ab lb cap] 34).alloc (.cells #[.slice none 0 0] 27)
  have R0 := At.newAt (w := (w.alloc (.cells #[.slice A D.length c] 27)).alloc (.cells #[.int .i64 0, .int .i64 i, .int .i64 n, .int .i64 m, .int .i64 p, .int .i64 r, .int .i64 s, .int .i64 t, .slice Ab lb cap] 34)) (n := (w.heap.size + 2)) (by simp) #[.slice none 0 0] 27
  have hsz0 : ((((w.alloc (.cells #[.slice A D.length c] 27)).alloc (.cells #[.int .i64 0, .int .i64 i, .int .i64 n, .int .i64 m, .int .i64 p, .int .i64 r, .int .i64 s, .int .i64 t, .slice Ab lb cap] 34)).alloc (.cells #[.slice none 0 0] 27))).heap.size = w.heap.size + 3 := by simp
  have ok := h.ok
  have hIb := around_bd i 4 (by omega)
  have hNb := around_bd n 10 (by omega)
  have hIi : I64 (around i 4) := by unfold I64; omega
  have hNi : I64 (around n 10 - 1) := by unfold I64; omega
  have cI := fun V => around1 i 4 V gi (by omega)
  have cN := fun V => around1 n 10 V gn (by omega)
  have sN : IntKind.i64.wrap (around n 10 - 1) = around n 10 - 1 := IntWalk.i64_in _ (by omega)
  have sN2 : wrap64 (around n 10 - 1) = around n 10 - 1 := by unfold wrap64; omega
  have hNl : -1 ≤ around n 10 - 1 := by omega
  have hWb := around_bd n 8 (by omega)
  have hHb := around_bd m 8 (by omega)
  have cW := fun V => around1 n 8 V gn (by omega)
  have cH := fun V => around1 m 8 V gm (by omega)
  have sW : IntKind.i64.wrap (around n 8 - 1) = around n 8 - 1 := IntWalk.i64_in _ (by omega)
  have sW2 : wrap64 (around n 8 - 1) = around n 8 - 1 := by unfold wrap64; omega
  have sH : IntKind.i64.wrap (around m 8 - 1) = around m 8 - 1 := IntWalk.i64_in _ (by omega)
  have sH2 : wrap64 (around m 8 - 1) = around m 8 - 1 := by unfold wrap64; omega
  generalize hW1 : around n 8 = W1 at *
  generalize hH1 : around m 8 = H1 at *
  replace hW1 := Lib.hid hW1
  replace hH1 := Lib.hid hH1
  generalize hW2 : W1 - 1 = WW at *
  generalize hH2 : H1 - 1 = HH at *
  have tW : IntKind.i64.wrap (W1 - 1) = WW := by rw [hW2]; exact sW
  have tW2 : wrap64 (W1 - 1) = WW := by rw [hW2]; exact sW2
  have tH : IntKind.i64.wrap (H1 - 1) = HH := by rw [hH2]; exact sH
  have tH2 : wrap64 (H1 - 1) = HH := by rw [hH2]; exact sH2
  clear sW sW2 sH sH2
  replace hW2 := Lib.hid hW2
  replace hH2 := Lib.hid hH2
  generalize around i 4 = I at *
  generalize hN1 : around n 10 = N1 at *
  replace hN1 := Lib.hid hN1
  generalize hN2 : N1 - 1 = N at *
  have tN : IntKind.i64.wrap (N1 - 1) = N := by rw [hN2]; exact sN
  have tN2 : wrap64 (N1 - 1) = N := by rw [hN2]; exact sN2
  clear sN sN2
  replace hN2 := Lib.hid hN2
  have cD := Lib.hid (rMake12 (n := j) (hd.bl g0.bl) ok hj I WW HH)
  have cP := Lib.hid (fun (V : World) (g : Bl w V) => plMake1 (h.bl g) hj I WW HH hIi)
  generalize mkN S I WW HH = mv at *
  generalize mkE S I WW HH = me at *
  generalize mkS S I WW HH = S2 at *
  clear hIb hNb hd hX h hWb hHb
  go_enter Try.func8, Try.ntmps8
  go_wp2_with fail
  refine (cI _).mono ?_
  rintro e w' ⟨rfl, rfl⟩
  go_wp2_with fail
  refine (cN _).mono ?_
  rintro e w' ⟨rfl, rfl⟩
  have e2 := E0.cell 2
  have e3 := E0.cell 3
  go_wp2_with fail
  refine (cW _).mono ?_
  rintro e w' ⟨rfl, rfl⟩
  go_wp2_with fail
  refine (cH _).mono ?_
  rintro e w' ⟨rfl, rfl⟩
  have p0 := P0.cell 0
  have e1 := E0.cell 0
  go_wp2_with fail
  refine cD.out.mono ?_
  rintro e v2 ⟨A', c', D', rfl, hD2, g2, hXX⟩
  have hX3 := hXX (fun k => PlX pp nb bb Q k ∨ k = (w.heap.size + 2)) (fun k hk => by rcases hk with h | h; have := hxl k h; omega; omega) hX2
  have hXY := fun (X : Nat → Prop) (hx : ∀ k, X k → k < w.heap.size) => hXX X (fun k hk => Nat.lt_of_lt_of_le (hx k hk) g0.size)
  have G4 := (g0.bl.trans g2).alloc (.cells #[.slice A' D'.length c'] 27)
  have N4 := At.new v2 #[.slice A' D'.length c'] 27
  have R4 := (R0.bl g2).alloc (.cells #[.slice A' D'.length c'] 27)
  have E4 := (E0.bl g2).alloc (.cells #[.slice A' D'.length c'] 27)
  have hD4 := hD2.bl ((Bl.refl v2).alloc (.cells #[.slice A' D'.length c'] 27))
  have hnx : (w.heap.size + 2) < v2.heap.size := (R0.bl g2).lt
  have hrbw : w.heap.size ≤ (w.heap.size + 2) := by omega
  clear p0 e1 P0 R0 E0 cD g0 hsz0 cI cN hXX E4 cW cH e2 e3
  go_wp2_with fail
  refine (cP.out _ G4).mono ?_
  rintro e V7 ⟨Q7, rfl, hP7, k7, hQ7⟩
  have R7 := R4.kx k7 (fun h => by have := hxl _ h; omega)
  have N7 := N4.kx k7 (fun h => by have := hxl _ h; omega)
  have n0 := N7.cell 0
  have r70 := R7.cell 0
  have r7f := R7.free 0
  clear hxl cP N4 R4 N7 hnx
  go_wp2
  have d0 := (R7.put 0 (.slice A' D'.length c')).cell 0
  simp at d0
  exact bodyPost_ret (v := .tuple #[.agg #[.slice A' D'.length c'], .bool true]) (by simp [results, Try.results8, go_sem, d0]) rfl (DoesQ.fin G4 hrbw R7 _ k7 hP7 hD4 hX3 hQ7 hXY)

set_option maxRecDepth 100000 in
set_option maxHeartbeats 2000000 in
theorem plDoes4 (h : PlR w pp nb bb Q S j) (hd : DcR w A c D S) (hX : DcX (PlX pp nb bb Q) A D) (hj : j ≤ 1000) (_k i n m p r s t : Int) (Ab : Option Addr) (bs : List Int) (lb cap : Nat) (hlb : lb = bs.length) (gi : I64 i) (gn : I64 n) (_gm : I64 m) (_gA : Ns .u8 w Ab bs) (_g8 : ∀ x ∈ bs, U8 x) (_glc : bs.length ≤ cap) (_gcm : cap ≤ maxLen) :
    Calls Try.prog 8 #[.pointer (some ⟨pp, 0, none⟩), .agg #[.slice A D.length c], .agg #[.int .i64 4, .int .i64 i, .int .i64 n, .int .i64 m, .int .i64 p, .int .i64 r, .int .i64 s, .int .i64 t, .slice Ab lb cap]] w (DoesQ w pp nb bb Q A D (j + 1)) := by
  replace hlb := Lib.hid hlb
  have hX2 : DcX (fun k => PlX pp nb bb Q k ∨ k = (w.heap.size + 2)) A D := hX.grow hd h.ok (fun j hj => by rcases hj with h | h; exact .inl h; right; omega)
  have hxl : ∀ k, PlX pp nb bb Q k → k < w.heap.size := fun k hk => h.xlt hk
  have g0 := (((Gr.refl w).alloc (.cells #[.slice A D.length c] 27)).alloc (.cells #[.int .i64 4, .int .i64 i, .int .i64 n, .int .i64 m, .int .i64 p, .int .i64 r, .int .i64 s, .int .i64 t, .slice Ab lb cap] 34)).alloc (.cells #[.slice none 0 0] 27)
  have P0 := ((At.new w #[.slice A D.length c] 27).alloc (.cells #[.int .i64 4, .int .i64 i, .int .i64 n, .int .i64 m, .int .i64 p, .int .i64 r, .int .i64 s, .int .i64 t, .slice Ab lb cap] 34)).alloc (.cells #[.slice none 0 0] 27)
  have E0 := (At.newAt (w := w.alloc (.cells #[.slice A D.length c] 27)) (n := w.heap.size + 1) (by simp) #[.int .i64 4, .int .i64 i, .int .i64 n, .int .i64 m, .int .i64 p, .int .i64 r, .int .i64 s, .int .i64 t, .slice Ab lb cap] 34).alloc (.cells #[.slice none 0 0] 27)
  have R0 := At.newAt (w := (w.alloc (.cells #[.slice A D.length c] 27)).alloc (.cells #[.int .i64 4, .int .i64 i, .int .i64 n, .int .i64 m, .int .i64 p, .int .i64 r, .int .i64 s, .int .i64 t, .slice Ab lb cap] 34)) (n := (w.heap.size + 2)) (by simp) #[.slice none 0 0] 27
  have hsz0 : ((((w.alloc (.cells #[.slice A D.length c] 27)).alloc (.cells #[.int .i64 4, .int .i64 i, .int .i64 n, .int .i64 m, .int .i64 p, .int .i64 r, .int .i64 s, .int .i64 t, .slice Ab lb cap] 34)).alloc (.cells #[.slice none 0 0] 27))).heap.size = w.heap.size + 3 := by simp
  have ok := h.ok
  have hIb := around_bd i 4 (by omega)
  have hNb := around_bd n 10 (by omega)
  have hIi : I64 (around i 4) := by unfold I64; omega
  have hNi : I64 (around n 10 - 1) := by unfold I64; omega
  have cI := fun V => around1 i 4 V gi (by omega)
  have cN := fun V => around1 n 10 V gn (by omega)
  have sN : IntKind.i64.wrap (around n 10 - 1) = around n 10 - 1 := IntWalk.i64_in _ (by omega)
  have sN2 : wrap64 (around n 10 - 1) = around n 10 - 1 := by unfold wrap64; omega
  have hNl : -1 ≤ around n 10 - 1 := by omega
  generalize around i 4 = I at *
  generalize hN1 : around n 10 = N1 at *
  replace hN1 := Lib.hid hN1
  generalize hN2 : N1 - 1 = N at *
  have tN : IntKind.i64.wrap (N1 - 1) = N := by rw [hN2]; exact sN
  have tN2 : wrap64 (N1 - 1) = N := by rw [hN2]; exact sN2
  clear sN sN2
  replace hN2 := Lib.hid hN2
  have cD := Lib.hid (rLet12 (n := j) (hd.bl g0.bl) ok hj N hNi)
  have cP := Lib.hid (fun (V : World) (g : Bl w V) => plLet1 (h.bl g) hj N hNi)
  generalize leI S N = li at *
  generalize leB S N = lbb at *
  generalize leS S N = S2 at *
  clear hIb hNb hd hX h
  go_enter Try.func8, Try.ntmps8
  go_wp2_with fail
  refine (cI _).mono ?_
  rintro e w' ⟨rfl, rfl⟩
  go_wp2_with fail
  refine (cN _).mono ?_
  rintro e w' ⟨rfl, rfl⟩
  have p0 := P0.cell 0
  have e1 := E0.cell 0
  go_wp2_with fail
  refine cD.out.mono ?_
  rintro e v2 ⟨A', c', D', rfl, hD2, g2, hXX⟩
  have hX3 := hXX (fun k => PlX pp nb bb Q k ∨ k = (w.heap.size + 2)) (fun k hk => by rcases hk with h | h; have := hxl k h; omega; omega) hX2
  have hXY := fun (X : Nat → Prop) (hx : ∀ k, X k → k < w.heap.size) => hXX X (fun k hk => Nat.lt_of_lt_of_le (hx k hk) g0.size)
  have G4 := (g0.bl.trans g2).alloc (.cells #[.slice A' D'.length c'] 27)
  have N4 := At.new v2 #[.slice A' D'.length c'] 27
  have R4 := (R0.bl g2).alloc (.cells #[.slice A' D'.length c'] 27)
  have E4 := (E0.bl g2).alloc (.cells #[.slice A' D'.length c'] 27)
  have hD4 := hD2.bl ((Bl.refl v2).alloc (.cells #[.slice A' D'.length c'] 27))
  have hnx : (w.heap.size + 2) < v2.heap.size := (R0.bl g2).lt
  have hrbw : w.heap.size ≤ (w.heap.size + 2) := by omega
  clear p0 e1 P0 R0 E0 cD g0 hsz0 cI cN hXX E4
  go_wp2_with fail
  refine (cP.out _ G4).mono ?_
  rintro e V7 ⟨rfl, hP7, k7⟩
  have R7 := R4.kx k7 (fun h => by have := hxl _ h; omega)
  have N7 := N4.kx k7 (fun h => by have := hxl _ h; omega)
  have n0 := N7.cell 0
  have r70 := R7.cell 0
  have r7f := R7.free 0
  clear hxl cP N4 R4 N7 hnx
  go_wp2
  have d0 := (R7.put 0 (.slice A' D'.length c')).cell 0
  simp at d0
  exact bodyPost_ret (v := .tuple #[.agg #[.slice A' D'.length c'], .bool true]) (by simp [results, Try.results8, go_sem, d0]) rfl (DoesQ.fin G4 hrbw R7 _ k7 hP7 hD4 hX3 (fun _ => .inl) hXY)
end

end Go.Proofs.Ytkaaagggbclofaa
