/-
  What is proved: what a deed of the kinds beyond 4 leaves of a pool and of the document's. Conditions: at most 1000 buffers, none held more than 1000 times.
-/
import Derived.Test.YtkaaagggbclofaaPln
namespace Go.Proofs.Ytkaaagggbclofaa
open Go.ChangeShapes Go.WideShapes Go.ChangeAt Go.RowKit Go.Joins Go.Sort Go.Deep Go.Maps

section
variable {w : World} {pp nb bb j c : Nat} {Q : List Pq} {S : List Bf} {A : Option Addr} {D : List Db}
set_option maxRecDepth 100000 in
set_option maxHeartbeats 2000000 in
theorem plDoesE (h : PlR w pp nb bb Q S j) (hd : DcR w A c D S) (hX : DcX (PlX pp nb bb Q) A D) (hj : j ≤ 1000) (k i n m p r s t : Int) (Ab : Option Addr) (bs : List Int) (lb cap : Nat) (hlb : lb = bs.length) (gi : I64 i) (gn : I64 n) (_gm : I64 m) (_gA : Ns .u8 w Ab bs) (_g8 : ∀ x ∈ bs, U8 x) (_glc : bs.length ≤ cap) (_gcm : cap ≤ maxLen) (k0 : k ≠ 0) (k1 : k ≠ 1) (k2 : k ≠ 2) (k3 : k ≠ 3) (k4 : k ≠ 4) :
    Calls Try.prog 8 #[.pointer (some ⟨pp, 0, none⟩), .agg #[.slice A D.length c], .agg #[.int .i64 k, .int .i64 i, .int .i64 n, .int .i64 m, .int .i64 p, .int .i64 r, .int .i64 s, .int .i64 t, .slice Ab lb cap]] w (DoesQ w pp nb bb Q A D (j + 1)) := by
  replace hlb := Lib.hid hlb
  have hX2 : DcX (fun k => PlX pp nb bb Q k ∨ k = (w.heap.size + 2)) A D := hX.grow hd h.ok (fun j hj => by rcases hj with h | h; exact .inl h; right; omega)
  have hxl : ∀ k, PlX pp nb bb Q k → k < w.heap.size := fun k hk => h.xlt hk
  have g0 := (((Gr.refl w).alloc (.cells #[.slice A D.length c] 27)).alloc (.cells #[.int .i64 k, .int .i64 i, .int .i64 n, .int .i64 m, .int .i64 p, .int .i64 r, .int .i64 s, .int .i64 t, .slice Ab lb cap] 34)).alloc (.cells #[.slice none 0 0] 27)
  have P0 := ((At.new w #[.slice A D.length c] 27).alloc (.cells #[.int .i64 k, .int .i64 i, .int .i64 n, .int .i64 m, .int .i64 p, .int .i64 r, .int .i64 s, .int .i64 t, .slice Ab lb cap] 34)).alloc (.cells #[.slice none 0 0] 27)
  have E0 := (At.newAt (w := w.alloc (.cells #[.slice A D.length c] 27)) (n := w.heap.size + 1) (by simp) #[.int .i64 k, .int .i64 i, .int .i64 n, .int .i64 m, .int .i64 p, .int .i64 r, .int .i64 s, .int .i64 t, .slice Ab lb cap] 34).alloc (.cells #[.slice none 0 0] 27)
  have R0 := At.newAt (w := (w.alloc (.cells #[.slice A D.length c] 27)).alloc (.cells #[.int .i64 k, .int .i64 i, .int .i64 n, .int .i64 m, .int .i64 p, .int .i64 r, .int .i64 s, .int .i64 t, .slice Ab lb cap] 34)) (n := (w.heap.size + 2)) (by simp) #[.slice none 0 0] 27
  have hsz0 : ((((w.alloc (.cells #[.slice A D.length c] 27)).alloc (.cells #[.int .i64 k, .int .i64 i, .int .i64 n, .int .i64 m, .int .i64 p, .int .i64 r, .int .i64 s, .int .i64 t, .slice Ab lb cap] 34)).alloc (.cells #[.slice none 0 0] 27))).heap.size = w.heap.size + 3 := by simp
  have ok := h.ok
  have hIb := around_bd i 4 (by omega)
  have hNb := around_bd n 10 (by omega)
  have hIi : I64 (around i 4) := by unfold I64; omega
  have hNi : I64 (around n 10 - 1) := by unfold I64; omega
  have cI := fun V => around1 i 4 V gi (by omega)
  have cN := fun V => around1 n 10 V gn (by omega)
  have sN : IntKind.i64.wrap (around n 10 - 1) = around n 10 - 1 := IntWalk.i64_in _ (by omega)
  have sN2 : wrap64 (around n 10 - 1) = around n 10 - 1 := by unfold wrap64; omega
  have hNl : -1 ≤ around n 10 - 1 := by omega
  generalize around i 4 = I at *
  generalize hN1 : around n 10 = N1 at *
  replace hN1 := Lib.hid hN1
  generalize hN2 : N1 - 1 = N at *
  have tN : IntKind.i64.wrap (N1 - 1) = N := by rw [hN2]; exact sN
  have tN2 : wrap64 (N1 - 1) = N := by rw [hN2]; exact sN2
  clear sN sN2
  replace hN2 := Lib.hid hN2
  have cD := Lib.hid (rFind12 (c := c) (hd.rd.bl g0.bl) (by have := hd.len; have := ok.few; omega) I)
  rw [hd.is] at cD
  have cP := Lib.hid (fun (V : World) (g : Bl w V) => plFind1 (h.bl g) I hIi)
  have FINL := Lib.hid (fun (w4 w5 : World) (G4 : Gr w w4) (k5 : Gr w4 w5) (R5 : At w5 (w.heap.size + 2) #[.slice none 0 0] 27) (u : Value) => DoesQ.fin (n := j + 1) (c' := c) (D' := D) (A' := A) (Q' := Q) (S' := S) G4.bl (show w.heap.size ≤ (w.heap.size + 2) by omega) R5 u (Kx.bl k5.bl) ((h.bl (G4.trans k5).bl).up (Nat.le_succ _)) (hd.bl G4.bl) hX2 (fun _ => .inl) (fun _ _ h => h))
  have q0 : (k == 0) = false := by simpa using k0
  have q1 : (k == 1) = false := by simpa using k1
  have q2 : (k == 2) = false := by simpa using k2
  have q3 : (k == 3) = false := by simpa using k3
  have q4 : (k == 4) = false := by simpa using k4
  have hcs : (plN I S = -1 ∧ fiE S I = 5) ∨ (∃ u : Nat, plN I S = (u : Int) ∧ fiE S I = 0) := by
    unfold plN fiE
    cases plF I S with
    | none => exact .inl ⟨rfl, rfl⟩
    | some u => exact .inr ⟨u, rfl, rfl⟩
  clear hIb hNb hd hX h k0 k1 k2 k3 k4 hX2 hxl
  rcases hcs with ⟨a1, a2⟩ | ⟨u, a1, a2⟩
  all_goals
    rw [a1] at cD
    rw [a1, a2] at cP
    clear a1 a2
    go_enter Try.func8, Try.ntmps8
    go_wp2_with fail
    refine (cI _).mono ?_
    rintro e w' ⟨rfl, rfl⟩
    go_wp2_with fail
    refine (cN _).mono ?_
    rintro e w' ⟨rfl, rfl⟩
    have p0 := P0.cell 0
    have e1 := E0.cell 0
    go_wp2_with fail
    refine cD.out.mono ?_
    rintro e v2 ⟨rfl, g2⟩
    have G2 := g0.trans g2
    go_wp2_with fail
    refine (cP.out _ G2.bl).mono ?_
    rintro e v3 ⟨rfl, g3⟩
    have R3 := (R0.gr g2).gr g3
    have P3 := (P0.gr g2).gr g3
    have r30 := R3.cell 0
    have r3f := R3.free 0
    have p30 := P3.cell 0
    clear p0 e1 P0 R0 E0 cD cP g0 hsz0 cI cN
    go_wp2
    have d0 := (R3.put 0 (.slice A D.length c)).cell 0
    simp at d0
    exact bodyPost_ret (v := .tuple #[.agg #[.slice A D.length c], .bool true]) (by simp [results, Try.results8, go_sem, d0]) rfl (FINL.out v2 _ G2 g3 R3 _)
end

end Go.Proofs.Ytkaaagggbclofaa
