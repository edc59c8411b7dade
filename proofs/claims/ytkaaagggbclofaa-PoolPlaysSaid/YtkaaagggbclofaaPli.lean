/-
  What is proved: what the document's Destroy hands back. Conditions: at most 1000 buffers, none held more than 1000 times.
-/
import Derived.Test.YtkaaagggbclofaaPlh
namespace Go.Proofs.Ytkaaagggbclofaa
open Go.ChangeShapes Go.WideShapes Go.ChangeAt Go.RowKit Go.Joins Go.Sort Go.Deep Go.Maps

section
variable {w : World} {A : Option Addr} {c n : Nat} {D : List Db} {S : List Bf}
set_option maxRecDepth 100000 in
set_option maxHeartbeats 1000000 in
theorem rDestroy12 (h : DcR w A c D S) (ok : OkS n S) (hn : n ≤ 1000) (i : Int) : Calls Try.prog 25 #[.agg #[.slice A D.length c], .int .i64 i] w (DcQ w A D (dsS S i) (fun p => .tuple #[p, .int .i64 (fiE S i)])) := by
  have hDl : D.length ≤ 1000 := by have := h.len; have := ok.few; omega
  have g0 := ((Gr.refl w).alloc (.cells #[.slice A D.length c] 27)).alloc (.cells #[.slice none 0 0] 27)
  have P0 := (At.new w #[.slice A D.length c] 27).alloc (.cells #[.slice none 0 0] 27)
  have R0 := At.newAt (w := w.alloc (.cells #[.slice A D.length c] 27)) (n := w.heap.size + 1) (by simp) #[.slice none 0 0] 27
  have cT := rFind12 (c := c) (h.rd.bl g0.bl) hDl i
  rw [h.is] at cT
  unfold plN at cT
  unfold dsS fiE
  cases ha : plF i S with
  | none =>
    rw [ha] at cT
    go_enter Try.func25, Try.ntmps25
    go_wp2_with fail
    refine cT.mono ?_
    rintro e v1 ⟨rfl, g1⟩
    have P1 := (P0.gr g1).cell 0
    have R1 := (R0.gr g1)
    have r0 := R1.cell 0
    have rf := R1.free 0
    clear cT
    go_wp2
    have R2 := R1.put 0 (.slice A D.length c)
    have d0 := R2.cell 0
    simp at d0
    exact bodyPost_ret (v := .tuple #[.agg #[.slice A D.length c], .int .i64 5]) (by simp [results, Try.results25, go_sem, d0]) rfl (DcQ.same (f := fun p => .tuple #[p, .int .i64 5]) h ((g0.trans g1).bl.setCell (p := ⟨w.heap.size + 1, 0, none⟩) (by simp) _))
  | some k =>
    rw [ha] at cT
    obtain ⟨s, hk, hnm, hid⟩ := plF_some ha
    dsimp only at cT ⊢
    rw [getD_at hk]
    obtain ⟨d, hd, rfl⟩ := h.at hk
    have hkl := (List.getElem?_eq_some_iff.1 hd).1
    obtain ⟨b, off, rfl, hrow⟩ := h.rd.opened (by omega)
    have hE := Lib.hid (fun (V : World) (g : Gr w V) => db_at (hrow.bl g.bl) hd)
    have cW := Lib.hid (fun (V : World) (g : Gr w V) => rWith1 (c := c) (h.rd.bl g.bl) (by simp) hDl k hkl ⟨{ d.s with nm := false }, d.b, d.c⟩)
    have hrr := h.rows d (List.mem_of_getElem? hd)
    have fin := Lib.hid (fun (V : World) (G : Bl w V) (g c' : Nat) (hrd : shB.Rd V (some ⟨g, 0, none⟩) (D.set k ⟨{ d.s with nm := false }, d.b, d.c⟩)) (hg : w.heap.size ≤ g) => DcQ.put (f := fun p => .tuple #[p, .int .i64 0]) (c' := c') (x := ⟨{ d.s with nm := false }, d.b, d.c⟩) (u := { d.s with nm := false }) h hd G rfl (hrr.bl G) (.inl rfl) hrd hg)
    obtain ⟨⟨id, nm, sh, W, H, L⟩, rb, rc⟩ := d
    simp only [Db.cells] at hE cW fin ⊢
    generalize hlL : L.length = ll at *
    replace hlL := Lib.hid hlL
    have hk0 : decide ((k : Int) < 0) = false := by simp
    clear ha hk hnm hid hrr hrow h ok hd
    go_enter Try.func25, Try.ntmps25
    go_wp2_with fail
    refine cT.mono ?_
    rintro e v1 ⟨rfl, g1⟩
    have P1 := P0.gr g1
    have R1 := R0.gr g1
    have p0 := P1.cell 0
    obtain ⟨e0, e1, e2, e3, e4, e5⟩ := hE.out v1 (g0.trans g1)
    have q1 := (P1.alloc (.cells #[.int .i64 id, .bool false, .int .i64 (sh : Int), .int .i64 (W : Int), .int .i64 (H : Int), .slice (some ⟨rb, 0, none⟩) ll rc] 80)).cell 0
    clear cT P0 R0
    go_wp2_with fail
    refine (cW.out _ ((g0.trans g1).alloc _)).mono ?_
    rintro e v4 ⟨g, c4, rfl, hg4, hrd4, g4⟩
    have R4 := (R1.alloc (.cells #[.int .i64 id, .bool false, .int .i64 (sh : Int), .int .i64 (W : Int), .int .i64 (H : Int), .slice (some ⟨rb, 0, none⟩) ll rc] 80)).bl g4
    have G4 := ((g0.trans g1).alloc (.cells #[.int .i64 id, .bool false, .int .i64 (sh : Int), .int .i64 (W : Int), .int .i64 (H : Int), .slice (some ⟨rb, 0, none⟩) ll rc] 80)).bl.trans g4
    have r0 := R4.cell 0
    have rf := R4.free 0
    have hsz := R1.lt
    rw [List.length_set]
    simp at hg4
    clear e0 e1 e2 e3 e4 e5 p0 q1 R1 cW hE
    go_wp2
    have R5 := R4.put 0 (.slice (some ⟨g, 0, none⟩) D.length c4)
    have d0 := R5.cell 0
    simp at d0
    have G5 := G4.setCell (p := ⟨w.heap.size + 1, 0, none⟩) (by simp) (.slice (some ⟨g, 0, none⟩) D.length c4)
    exact bodyPost_ret (v := .tuple #[.agg #[.slice (some ⟨g, 0, none⟩) D.length c4], .int .i64 0]) (by simp [results, Try.results25, go_sem, d0]) rfl (fin.out _ G5 g c4 (hrd4.by (By.set (p := ⟨w.heap.size + 1, 0, none⟩) (By.refl v4 _) _) (.inr (.inr (by simp; omega)))) (by omega))

end

end Go.Proofs.Ytkaaagggbclofaa
