/-
  What is proved: what the document's Write hands back. Conditions: at most 1000 buffers, none held more than 1000 times; bytes are bytes.
-/
import Derived.Test.YtkaaagggbclofaaPlh
import Derived.Test.YtkaaagggbclofaaZz4
import Derived.Deep.DeepCutAuto
namespace Go.Proofs.Ytkaaagggbclofaa
open Go.ChangeShapes Go.WideShapes Go.ChangeAt Go.RowKit Go.Joins Go.Sort Go.Deep Go.Maps

theorem row_lt {k : IntKind} {w : World} {b off : Nat} {L : List Int} (h : RowN k w b off L) (hl : 0 < L.length) : b < w.heap.size := by
  obtain ⟨x, hx⟩ := list_at hl
  exact World.block_lt_of_cell? w _ (h 0 x hx)
section
variable {w : World} {A : Option Addr} {c n : Nat} {D : List Db} {S : List Bf}
set_option maxRecDepth 100000 in
set_option maxHeartbeats 1000000 in
theorem rWrite12 (h : DcR w A c D S) (ok : OkS n S) (hn : n ≤ 1000) (i p r s t : Int) (Ab : Option Addr) (bs : List Int) (cb : Nat) (hA : Ns .u8 w Ab bs) (h8 : ∀ x ∈ bs, U8 x) :
    Calls Try.prog 24 #[.agg #[.slice A D.length c], .int .i64 i, .agg #[.int .i64 p, .int .i64 r, .int .i64 s, .int .i64 t], .slice Ab bs.length cb] w (DcQ w A D (wrS12 S i p r s t bs) (fun q => .tuple #[q, .int .i64 (wrE12 S i p r s t bs)])) := by
  have hDl : D.length ≤ 1000 := by have := h.len; have := ok.few; omega
  have g0 := (((Gr.refl w).alloc (.cells #[.slice A D.length c] 27)).alloc (.cells #[.int .i64 p, .int .i64 r, .int .i64 s, .int .i64 t] 31)).alloc (.cells #[.slice none 0 0] 27)
  have P0 := ((At.new w #[.slice A D.length c] 27).alloc (.cells #[.int .i64 p, .int .i64 r, .int .i64 s, .int .i64 t] 31)).alloc (.cells #[.slice none 0 0] 27)
  have B0 := (At.newAt (w := w.alloc (.cells #[.slice A D.length c] 27)) (n := w.heap.size + 1) (by simp) #[.int .i64 p, .int .i64 r, .int .i64 s, .int .i64 t] 31).alloc (.cells #[.slice none 0 0] 27)
  have R0 := At.newAt (w := (w.alloc (.cells #[.slice A D.length c] 27)).alloc (.cells #[.int .i64 p, .int .i64 r, .int .i64 s, .int .i64 t] 31)) (n := w.heap.size + 2) (by simp) #[.slice none 0 0] 27
  have cT := rFind12 (c := c) (h.rd.bl g0.bl) hDl i
  rw [h.is] at cT
  unfold plN at cT
  unfold wrS12 wrE12
  cases ha : plF i S with
  | none =>
    rw [ha] at cT
    go_enter Try.func24, Try.ntmps24
    go_wp2_with fail
    refine cT.mono ?_
    rintro e v1 ⟨rfl, g1⟩
    have P1 := (P0.gr g1).cell 0
    have R1 := (R0.gr g1)
    have r0 := R1.cell 0
    have rf := R1.free 0
    clear cT
    go_wp2
    have R2 := R1.put 0 (.slice A D.length c)
    have d0 := R2.cell 0
    simp at d0
    exact bodyPost_ret (v := .tuple #[.agg #[.slice A D.length c], .int .i64 5]) (by simp [results, Try.results24, go_sem, d0]) rfl (DcQ.same (f := fun p => .tuple #[p, .int .i64 5]) h ((g0.trans g1).bl.setCell (p := ⟨w.heap.size + 2, 0, none⟩) (by simp) _))
  | some k =>
    rw [ha] at cT
    obtain ⟨s', hk, hnm, hid⟩ := plF_some ha
    dsimp only at cT ⊢
    rw [getD_at hk]
    obtain ⟨d, hd, rfl⟩ := h.at hk
    have hkl := (List.getElem?_eq_some_iff.1 hd).1
    obtain ⟨b, off, rfl, hrow⟩ := h.rd.opened (by omega)
    have hE := Lib.hid (fun (V : World) (g : Gr w V) => db_at (hrow.bl g.bl) hd)
    have hk0 : decide ((k : Int) < 0) = false := by simp
    by_cases h0 : 0 < d.s.hd
    · rw [if_pos h0, if_pos h0]
      have fin := Lib.hid (fun (V : World) (G : Bl w V) => DcQ.same (f := fun p => .tuple #[p, .int .i64 8]) h G)
      obtain ⟨⟨id, nm, sh, W, H, L⟩, rb, rc⟩ := d
      dsimp only at hE h0
      have q1 : decide (0 < sh) = true := by simpa using h0
      generalize hlL : L.length = ll at *
      replace hlL := Lib.hid hlL
      clear ha hk hnm hid hrow h ok hd h0 hA h8
      go_enter Try.func24, Try.ntmps24
      go_wp2_with fail
      refine cT.mono ?_
      rintro e v1 ⟨rfl, g1⟩
      have P1 := P0.gr g1
      have R1 := R0.gr g1
      have p0 := P1.cell 0
      obtain ⟨e0, e1, e2, e3, e4, e5⟩ := hE.out v1 (g0.trans g1)
      have q2 := (P1.alloc (.cells #[.int .i64 id, .bool nm, .int .i64 (sh : Int), .int .i64 (W : Int), .int .i64 (H : Int), .slice (some ⟨rb, 0, none⟩) ll rc] 80)).cell 0
      have R4 := R1.alloc (.cells #[.int .i64 id, .bool nm, .int .i64 (sh : Int), .int .i64 (W : Int), .int .i64 (H : Int), .slice (some ⟨rb, 0, none⟩) ll rc] 80)
      have G4 := ((g0.trans g1).alloc (.cells #[.int .i64 id, .bool nm, .int .i64 (sh : Int), .int .i64 (W : Int), .int .i64 (H : Int), .slice (some ⟨rb, 0, none⟩) ll rc] 80)).bl
      have r0 := R4.cell 0
      have rf := R4.free 0
      clear cT P0 R0 B0
      go_wp2
      have R2 := R4.put 0 (.slice (some ⟨b, off, none⟩) D.length c)
      have d0 := R2.cell 0
      simp at d0
      exact bodyPost_ret (v := .tuple #[.agg #[.slice (some ⟨b, off, none⟩) D.length c], .int .i64 8]) (by simp [results, Try.results24, go_sem, d0]) rfl (fin.out _ (G4.setCell (p := ⟨w.heap.size + 2, 0, none⟩) (by simp) _))
    · rw [if_neg h0, if_neg h0]
      have hm := List.mem_of_getElem? hk
      have hrb := Lib.hid (row_lt (h.rows d (List.mem_of_getElem? hd)) (by rw [ok.len _ hm]; exact Nat.mul_pos (ok.w1 _ hm) (ok.h1 _ hm)))
      have hrr := h.rows d (List.mem_of_getElem? hd)
      have cM := Lib.hid (fun (V : World) (g : Gr w V) => rwriteS (c := d.c) V (hrr.gr g) (ok.len _ hm) (ok.w1 _ hm) (ok.w2 _ hm) (ok.h2 _ hm) p r s t Ab bs cb (hA.bl g.bl) h8)
      have hL' := wtL_len d.s.W d.s.H d.s.L p r s t bs
      have cW := Lib.hid (fun (V : World) (g : Bl w V) (b' c' : Nat) => rWith1 (c := c) (h.rd.bl g) (by simp) hDl k hkl ⟨{ d.s with L := wtL d.s.W d.s.H d.s.L p r s t bs }, b', c'⟩)
      have fin := Lib.hid (fun (V : World) (G : Bl w V) (g c' b' c2 : Nat) (hrow' : RowN .u32 V b' 0 (wtL d.s.W d.s.H d.s.L p r s t bs)) (hb' : b' = d.b ∨ w.heap.size ≤ b') (hrd : shB.Rd V (some ⟨g, 0, none⟩) (D.set k ⟨{ d.s with L := wtL d.s.W d.s.H d.s.L p r s t bs }, b', c2⟩)) (hg : w.heap.size ≤ g) =>
        DcQ.put (f := fun q => .tuple #[q, .int .i64 (wtE d.s.W d.s.H p r s t bs)]) (c' := c') (x := ⟨{ d.s with L := wtL d.s.W d.s.H d.s.L p r s t bs }, b', c2⟩) (u := { d.s with L := wtL d.s.W d.s.H d.s.L p r s t bs }) h hd G rfl hrow' hb' hrd hg)
      obtain ⟨⟨id, nm, sh, W, H, L⟩, rb, rc⟩ := d
      have q1 : decide (0 < sh) = false := by simpa using h0
      simp only [Db.cells] at hE cW fin cM hL' hrb ⊢
      unfold DoR at cM
      generalize wtL W H L p r s t bs = L' at *
      generalize wtE W H p r s t bs = ve at *
      rw [hL'] at cW
      generalize hlL : L.length = ll at *
      replace hlL := Lib.hid hlL
      replace hL' := Lib.hid hL'
      clear ha hk hnm hid hrow h ok hd h0 hA h8 hrr hm
      go_enter Try.func24, Try.ntmps24
      go_wp2_with fail
      refine cT.mono ?_
      rintro e v1 ⟨rfl, g1⟩
      have P1 := P0.gr g1
      have R1 := R0.gr g1
      have B1 := B0.gr g1
      have p0 := P1.cell 0
      obtain ⟨e0, e1, e2, e3, e4, e5⟩ := hE.out v1 (g0.trans g1)
      have X4 := At.new v1 #[.int .i64 id, .bool nm, .int .i64 (sh : Int), .int .i64 (W : Int), .int .i64 (H : Int), .slice (some ⟨rb, 0, none⟩) ll rc] 80
      have R4 := R1.alloc (.cells #[.int .i64 id, .bool nm, .int .i64 (sh : Int), .int .i64 (W : Int), .int .i64 (H : Int), .slice (some ⟨rb, 0, none⟩) ll rc] 80)
      have P4 := P1.alloc (.cells #[.int .i64 id, .bool nm, .int .i64 (sh : Int), .int .i64 (W : Int), .int .i64 (H : Int), .slice (some ⟨rb, 0, none⟩) ll rc] 80)
      have B4 := B1.alloc (.cells #[.int .i64 id, .bool nm, .int .i64 (sh : Int), .int .i64 (W : Int), .int .i64 (H : Int), .slice (some ⟨rb, 0, none⟩) ll rc] 80)
      have G4 := (g0.trans g1).alloc (.cells #[.int .i64 id, .bool nm, .int .i64 (sh : Int), .int .i64 (W : Int), .int .i64 (H : Int), .slice (some ⟨rb, 0, none⟩) ll rc] 80)
      have k0 := B4.cell 0
      have k1 := B4.cell 1
      have k2 := B4.cell 2
      have k3 := B4.cell 3
      have hszR := R1.lt
      have hszv := G4.bl.size
      clear cT P0 R0 B0 hE
      go_wp2_with fail
      refine (cM.out _ G4).mono ?_
      rintro e v5 ⟨b', c', rfl, hrow5, hb5, g5⟩
      have P5 := P4.bl g5
      have X5 := X4.bl g5
      have R5 := R4.bl g5
      have G5 := G4.bl.trans g5
      have hv5 := g5.size
      clear e0 e1 e2 e3 e4 e5 p0 P1 R1 B1 X4 R4 P4 B4 k0 k1 k2 k3 cM
      generalize hxb : v1.heap.size = xb at *
      replace hxb := Lib.hid hxb
      have X6 := X5.alloc (.cells #[.int .i64 (W : Int), .int .i64 (H : Int), .slice (some ⟨b', 0, none⟩) ll c'] 78)
      have P6 := P5.alloc (.cells #[.int .i64 (W : Int), .int .i64 (H : Int), .slice (some ⟨b', 0, none⟩) ll c'] 78)
      have R6 := R5.alloc (.cells #[.int .i64 (W : Int), .int .i64 (H : Int), .slice (some ⟨b', 0, none⟩) ll c'] 78)
      have M6 := At.new v5 #[.int .i64 (W : Int), .int .i64 (H : Int), .slice (some ⟨b', 0, none⟩) ll c'] 78
      have G6 := G5.alloc (.cells #[.int .i64 (W : Int), .int .i64 (H : Int), .slice (some ⟨b', 0, none⟩) ll c'] 78)
      have rw6 := hrow5.bl ((Bl.refl v5).alloc (.cells #[.int .i64 (W : Int), .int .i64 (H : Int), .slice (some ⟨b', 0, none⟩) ll c'] 78))
      have hxl := X6.lt
      have f3 := X6.free 3
      have f4 := X6.free 4
      have f5 := X6.free 5
      have y3 := X6.cell 3
      have y4 := X6.cell 4
      have y5 := X6.cell 5
      have m0 := M6.cell 0
      have m1 := M6.cell 1
      have m2 := M6.cell 2
      go_upto_region 9 with fail
      have X7 := ((X6.put 3 (.int .i64 (W : Int))).put 4 (.int .i64 (H : Int))).put 5 (.slice (some ⟨b', 0, none⟩) ll c')
      have P7 := ((P6.far (p := ⟨xb, 3, none⟩) (by simp; omega) (.int .i64 (W : Int))).far (p := ⟨xb, 4, none⟩) (by simp; omega) (.int .i64 (H : Int))).far (p := ⟨xb, 5, none⟩) (by simp; omega) (.slice (some ⟨b', 0, none⟩) ll c')
      have R7 := ((R6.far (p := ⟨xb, 3, none⟩) (by simp; omega) (.int .i64 (W : Int))).far (p := ⟨xb, 4, none⟩) (by simp; omega) (.int .i64 (H : Int))).far (p := ⟨xb, 5, none⟩) (by simp; omega) (.slice (some ⟨b', 0, none⟩) ll c')
      have G7 := ((G6.setCell (p := ⟨xb, 3, none⟩) (by simp; omega) (.int .i64 (W : Int))).setCell (p := ⟨xb, 4, none⟩) (by simp; omega) (.int .i64 (H : Int))).setCell (p := ⟨xb, 5, none⟩) (by simp; omega) (.slice (some ⟨b', 0, none⟩) ll c')
      have rw7 : RowN .u32 ((((v5.alloc (.cells #[.int .i64 (W : Int), .int .i64 (H : Int), .slice (some ⟨b', 0, none⟩) ll c'] 78)).setCell ⟨xb, 3, none⟩ (.int .i64 (W : Int))).setCell ⟨xb, 4, none⟩ (.int .i64 (H : Int))).setCell ⟨xb, 5, none⟩ (.slice (some ⟨b', 0, none⟩) ll c')) b' 0 L' := by
        have hne : b' ≠ xb := by
          have hx := hxb.out
          rcases hb5 with e | e
          · rw [e]; intro e'; have := hrb.out; omega
          · simp at e; omega
        exact ((rw6.far (p := ⟨xb, 3, none⟩) hne _).far (p := ⟨xb, 4, none⟩) hne _).far (p := ⟨xb, 5, none⟩) hne _
      simp at X7
      clear X6 P6 R6 M6 G6 rw6 f3 f4 f5 y3 y4 y5 m0 m1 m2 X5 P5 R5 G5 hrow5
      generalize (((v5.alloc (.cells #[.int .i64 (W : Int), .int .i64 (H : Int), .slice (some ⟨b', 0, none⟩) ll c'] 78)).setCell ⟨xb, 3, none⟩ (.int .i64 (W : Int))).setCell ⟨xb, 4, none⟩ (.int .i64 (H : Int))).setCell ⟨xb, 5, none⟩ (.slice (some ⟨b', 0, none⟩) ll c') = v7 at *
      have x0 := X7.cell 0
      have x1 := X7.cell 1
      have x2 := X7.cell 2
      have x3 := X7.cell 3
      have x4 := X7.cell 4
      have x5 := X7.cell 5
      have p7 := P7.cell 0
      go_wp2_with fail
      refine (cW.out _ G7 b' c').mono ?_
      rintro e v8 ⟨g, c4, rfl, hg4, hrd4, g8⟩
      have R8 := R7.bl g8
      have G8 := G7.trans g8
      have hr8 := rw7.bl g8
      have r0 := R8.cell 0
      have rf := R8.free 0
      have hsz := R7.lt
      rw [List.length_set]
      clear x0 x1 x2 x3 x4 x5 p7 X7 P7 R7 cW
      go_wp2
      have R9 := R8.put 0 (.slice (some ⟨g, 0, none⟩) D.length c4)
      have d0 := R9.cell 0
      simp at d0
      have G9 := G8.setCell (p := ⟨w.heap.size + 2, 0, none⟩) (by simp) (.slice (some ⟨g, 0, none⟩) D.length c4)
      have hr9 : RowN .u32 (v8.setCell ⟨w.heap.size + 2, 0, none⟩ (.slice (some ⟨g, 0, none⟩) D.length c4)) b' 0 L' := by
        have hne : b' ≠ w.heap.size + 2 := by
          have hx := hxb.out
          rcases hb5 with e | e
          · rw [e]; intro e'; have := hrb.out; omega
          · simp at e; omega
        exact hr8.far (p := ⟨w.heap.size + 2, 0, none⟩) hne _
      exact bodyPost_ret (v := .tuple #[.agg #[.slice (some ⟨g, 0, none⟩) D.length c4], .int .i64 ve]) (by simp [results, Try.results24, go_sem, d0]) rfl (fin.out _ G9 g c4 b' c' hr9 (by rcases hb5 with e | e; exact .inl e; right; have hx := hxb.out; simp at e; omega) (hrd4.by (By.set (p := ⟨w.heap.size + 2, 0, none⟩) (By.refl v8 _) _) (.inr (.inr (by simp; omega)))) (by omega))
end

end Go.Proofs.Ytkaaagggbclofaa
