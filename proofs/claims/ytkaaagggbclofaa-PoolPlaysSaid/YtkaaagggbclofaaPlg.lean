/-
  What is proved: rows of buffers as the document's package lays them; what its There, Find and with hand back. Conditions: at most 1000 buffers.
-/
import Derived.Test.YtkaaagggbclofaaPlf
import Derived.Test.YtkaaagggbclofaaGs
namespace Go.Proofs.Ytkaaagggbclofaa
open Go.ChangeShapes Go.WideShapes Go.ChangeAt Go.RowKit Go.Joins Go.Sort Go.Deep Go.Maps

/-- A buffer of the document's, and where its colors lie. -/
structure Db where
  s : Bf
  b : Nat
  c : Nat
instance : Inhabited Db := ⟨⟨default, 0, 0⟩⟩
def Db.cells (d : Db) : List Value := [.int .i64 d.s.id, .bool d.s.nm, .int .i64 (d.s.hd : Int), .int .i64 (d.s.W : Int), .int .i64 (d.s.H : Int), .slice (some ⟨d.b, 0, none⟩) d.s.L.length d.c]
def shB : Shp Db := ⟨6, Db.cells, fun _ => rfl, fun d u h => by simp [Db.cells] at h; rcases h with h | h | h | h | h | h <;> (subst h; rfl), by omega⟩
abbrev zB : Value := .agg #[.int .i64 0, .bool false, .int .i64 0, .int .i64 0, .int .i64 0, .slice none 0 0]
theorem infoB : (Try.prog.info? 80).map (fun i => (i.zero, i.size, i.bytes)) = some (some zB, shB.n, 64) := by kernel_rfl
abbrev OwB := shB.Ow 80
theorem db_at {w : World} {b off : Nat} {l : List Db} (h : shB.Row w b off l) {k : Nat} {d : Db} (hx : l[k]? = some d) :
    w.cell? ⟨b, off + k * 6, none⟩ = some (.int .i64 d.s.id) ∧ w.cell? ⟨b, off + k * 6 + 1, none⟩ = some (.bool d.s.nm) ∧ w.cell? ⟨b, off + k * 6 + 2, none⟩ = some (.int .i64 (d.s.hd : Int)) ∧ w.cell? ⟨b, off + k * 6 + 3, none⟩ = some (.int .i64 (d.s.W : Int)) ∧
    w.cell? ⟨b, off + k * 6 + 4, none⟩ = some (.int .i64 (d.s.H : Int)) ∧ w.cell? ⟨b, off + k * 6 + 5, none⟩ = some (.slice (some ⟨d.b, 0, none⟩) d.s.L.length d.c) := by
  have h0 := h k d hx 0 _ rfl
  have h1 := h k d hx 1 _ rfl
  have h2 := h k d hx 2 _ rfl
  have h3 := h k d hx 3 _ rfl
  have h4 := h k d hx 4 _ rfl
  have h5 := h k d hx 5 _ rfl
  exact ⟨by simpa [shB] using h0, by simpa [shB] using h1, by simpa [shB] using h2, by simpa [shB] using h3, by simpa [shB] using h4, by simpa [shB] using h5⟩
def bfs (D : List Db) : List Bf := D.map Db.s
theorem bfs_at {D : List Db} {k : Nat} {d : Db} (h : D[k]? = some d) : (bfs D)[k]? = some d.s := by unfold bfs; rw [List.getElem?_map, h]; rfl
theorem bfs_len (D : List Db) : (bfs D).length = D.length := by unfold bfs; rw [List.length_map]
theorem bfs_set (D : List Db) (k : Nat) (x : Db) : bfs (D.set k x) = (bfs D).set k x.s := by unfold bfs; rw [List.map_set]
theorem atS_bfs {D : List Db} {k : Nat} {d : Db} (h : D[k]? = some d) : atS (bfs D) (k : Int) = if d.s.th = true then some k else none := by
  unfold atS
  rw [Int.toNat_natCast, getD_at (bfs_at h)]
  simp
theorem atS_low {S : List Bf} {m : Int} (h : m < 0) : atS S m = none := by unfold atS; rw [if_neg (by omega)]
theorem atS_high {S : List Bf} {m : Int} (h : (S.length : Int) ≤ m) : atS S m = none := by
  cases ha : atS S m with
  | none => rfl
  | some k =>
    obtain ⟨s, rfl, hk, _⟩ := atS_some ha
    have := (List.getElem?_eq_some_iff.1 hk).1
    omega

section
variable {w : World} {A : Option Addr} {c : Nat} {D : List Db}
set_option maxRecDepth 100000 in
theorem rThere1 (h : shB.Rd w A D) (hl : D.length ≤ 1000) (m : Int) (hm : I64 m) : Calls Try.prog 29 #[.agg #[.slice A D.length c], .int .i64 m] w (Rt w (.bool (atS (bfs D) m).isSome)) := by
  have g := (Gr.refl w).alloc (.cells #[.slice A D.length c] 27)
  have bx := (At.new w #[.slice A D.length c] 27).cell 0
  by_cases h0 : m < 0
  · rw [atS_low h0]
    have q1 : decide (m < 0) = true := by simpa using h0
    go_enter Try.func29, Try.ntmps29
    go_wp2
    go_ret
    exact ⟨rfl, g⟩
  · have q1 : decide (m < 0) = false := by simpa using h0
    by_cases h1 : (D.length : Int) ≤ m
    · rw [atS_high (by rw [bfs_len]; exact h1)]
      have q2 : decide ((D.length : Int) ≤ m) = true := by simpa using h1
      go_enter Try.func29, Try.ntmps29
      go_wp2
      go_ret
      exact ⟨rfl, g⟩
    · have q2 : decide ((D.length : Int) ≤ m) = false := by simpa using h1
      obtain ⟨k, rfl⟩ : ∃ k : Nat, m = (k : Int) := ⟨m.toNat, by omega⟩
      have hk : k < D.length := by omega
      obtain ⟨d, hd⟩ := list_at hk
      obtain ⟨b, off, rfl, hrow⟩ := h.opened (by omega)
      obtain ⟨e0, e1, e2, e3, e4, e5⟩ := db_at (hrow.bl g.bl) hd
      have hq : (atS (bfs D) (k : Int)).isSome = (d.s.nm || decide (0 < d.s.hd)) := by rw [atS_bfs hd]; unfold Bf.th; cases (d.s.nm || decide (0 < d.s.hd)) <;> rfl
      rw [hq]
      clear hq
      obtain ⟨⟨id, nm, sh, W, H, L⟩, rb, rc⟩ := d
      dsimp only at e0 e1 e2 e3 e4 e5 ⊢
      replace hd := Lib.hid hd
      replace hrow := Lib.hid hrow
      clear h
      cases nm
      · rw [Bool.false_or]
        go_enter Try.func29, Try.ntmps29
        go_wp2
        go_ret
        exact ⟨rfl, g⟩
      · rw [Bool.true_or]
        go_enter Try.func29, Try.ntmps29
        go_wp2
        go_ret
        exact ⟨rfl, g⟩

set_option maxRecDepth 100000 in
theorem rFind12 (h : shB.Rd w A D) (hl : D.length ≤ 1000) (i : Int) : Calls Try.prog 28 #[.agg #[.slice A D.length c], .int .i64 i] w (Rt w (.int .i64 (plN i (bfs D)))) := by
  go_enter Try.func28, Try.ntmps28
  go_wp2
  go_loopw [5] (fun v wr => ∃ k : Nat, k ≤ D.length ∧ v = .int .i64 k ∧ Gr w wr ∧ At wr w.heap.size #[.slice A D.length c] 27 ∧ Hid (∀ (j : Nat) (s : Bf), j < k → (bfs D)[j]? = some s → ¬ (s.nm = true ∧ s.id = i))) (fun v _ => D.length - (intOf v).toNat)
  case atStart => exact ⟨0, by omega, rfl, (Gr.refl w).alloc _, At.new _ _ _, Lib.hid (fun j s hj => absurd hj (Nat.not_lt_zero _))⟩
  case round =>
    obtain ⟨k, hk, rfl, G, bx, hd⟩ := hrel
    have x1 := bx.cell 0
    by_cases hlt : k < D.length
    · obtain ⟨d, hp⟩ := list_at hlt
      obtain ⟨b, off, rfl, hrow⟩ := h.opened (by omega)
      obtain ⟨e0, e1, e2, e3, e4, e5⟩ := db_at (hrow.bl G.bl) hp
      have hbk := bfs_at hp
      by_cases hq : d.s.nm = true ∧ d.s.id = i
      · have hres := plF_is hbk hq hd.out
        have hv : plN i (bfs D) = (k : Int) := by unfold plN; rw [hres]
        rw [hv]
        obtain ⟨q1, q2⟩ := hq
        rw [q1] at e1
        rw [q2] at e0
        clear hres hv hbk hd q1 q2
        replace hp := Lib.hid hp
        replace hrow := Lib.hid hrow
        go_wp2
        go_ret
        exact ⟨rfl, G⟩
      · have hd' : Hid (∀ (j : Nat) (s : Bf), j < k + 1 → (bfs D)[j]? = some s → ¬ (s.nm = true ∧ s.id = i)) := Lib.hid (fun j s hj hs => by
          by_cases hjk : j = k
          · subst hjk; rw [hbk] at hs; cases hs; exact hq
          · exact hd.out j s (by omega) hs)
        have hcs : (d.s.nm = false) ∨ (d.s.nm = true ∧ (d.s.id == i) = false) := by
          cases hnm : d.s.nm
          · exact .inl rfl
          · right; exact ⟨rfl, by simpa using fun e => hq ⟨hnm, e⟩⟩
        clear hd hbk hq
        replace hp := Lib.hid hp
        replace hrow := Lib.hid hrow
        rcases hcs with q1 | ⟨q1, q2⟩
        all_goals
          rw [q1] at e1
          clear q1
          go_wp2
          go_roundw
          case rel => exact ⟨k + 1, by omega, by go_num, G, bx, hd'⟩
          case measure => simp [intOf]; omega
    · have hk2 : k = D.length := by omega
      have hv : plN i (bfs D) = -1 := by
        unfold plN
        rw [plF_no fun j s hs => hd.out j s (by rw [hk2, ← bfs_len]; exact (List.getElem?_eq_some_iff.1 hs).1) hs]
      replace hv := Lib.hid hv
      clear hd
      go_wp2
      go_ret
      rw [hv.out]
      exact ⟨rfl, G⟩

/-- One of them is otherwise: a list of its own. -/
def WtQ (w : World) (D' : List Db) (e : Ending) (w' : World) : Prop := ∃ g c', e = .returned (.agg #[.slice (some ⟨g, 0, none⟩) D'.length c']) ∧ w.heap.size ≤ g ∧ shB.Rd w' (some ⟨g, 0, none⟩) D' ∧ Bl w w'
set_option maxRecDepth 100000 in
set_option maxHeartbeats 1000000 in
theorem rWith1 (h : shB.Rd w A D) (hA : A = none → c = 0) (hl : D.length ≤ 1000) (k : Nat) (hk : k < D.length) (x : Db) : Calls Try.prog 39 #[.agg #[.slice A D.length c], .int .i64 (k : Int), .agg x.cells.toArray] w (WtQ w (D.set k x)) := by
  obtain ⟨⟨id, nm, sh, W, H, L⟩, rb, rc⟩ := x
  simp only [Db.cells]
  have G0 := (((Gr.refl w).alloc (.cells #[.slice A D.length c] 27)).alloc (.cells #[.int .i64 id, .bool nm, .int .i64 (sh : Int), .int .i64 (W : Int), .int .i64 (H : Int), .slice (some ⟨rb, 0, none⟩) L.length rc] 80)).alloc (.cells #[.slice none 0 0] 27)
  have P0 := ((At.new w #[.slice A D.length c] 27).alloc (.cells #[.int .i64 id, .bool nm, .int .i64 (sh : Int), .int .i64 (W : Int), .int .i64 (H : Int), .slice (some ⟨rb, 0, none⟩) L.length rc] 80)).alloc (.cells #[.slice none 0 0] 27)
  have X0 := (At.newAt (w := w.alloc (.cells #[.slice A D.length c] 27)) (n := w.heap.size + 1) (by simp) #[.int .i64 id, .bool nm, .int .i64 (sh : Int), .int .i64 (W : Int), .int .i64 (H : Int), .slice (some ⟨rb, 0, none⟩) L.length rc] 80).alloc (.cells #[.slice none 0 0] 27)
  have R0 := At.newAt (w := (w.alloc (.cells #[.slice A D.length c] 27)).alloc (.cells #[.int .i64 id, .bool nm, .int .i64 (sh : Int), .int .i64 (W : Int), .int .i64 (H : Int), .slice (some ⟨rb, 0, none⟩) L.length rc] 80)) (n := w.heap.size + 2) (by simp) #[.slice none 0 0] 27
  have hr := h.bl G0.bl
  have hz0 : (((w.alloc (.cells #[.slice A D.length c] 27)).alloc (.cells #[.int .i64 id, .bool nm, .int .i64 (sh : Int), .int .i64 (W : Int), .int .i64 (H : Int), .slice (some ⟨rb, 0, none⟩) L.length rc] 80)).alloc (.cells #[.slice none 0 0] 27)).heap.size = w.heap.size + 3 := by simp
  generalize hll : L.length = ll at *
  replace hll := Lib.hid hll
  replace hz0 := Lib.hid hz0
  have hlk := Lib.hid hk
  go_enter Try.func39, Try.ntmps39
  go_upto_region 3 with (first
    | (at_builtin; refine Shp.wp_app (S := shB) Try.underlying25 infoB rfl (by decide) rfl (.tmp 8) (.tmp 10) rfl none 0 [] rfl (w.heap.size + 3) (Shp.Ow.nil _ _) A c D rfl hA hr (by simp; omega) (by rw [hz0.out]; exact Nat.le_refl _) ?_; intro A1 c1 w3 own1 ap1 lies1; rw [List.nil_append] at own1; simp only [List.length_nil, Nat.zero_add]; replace ap1 := By.none ap1; obtain ⟨g, rfl, hg1, hg2⟩ : ∃ g, A1 = some ⟨g, 0, none⟩ ∧ w.heap.size + 3 ≤ g ∧ g < w3.heap.size := (by rcases own_addr own1 with ⟨_, _, h1⟩ | h1; (have := hlk.out; omega); exact h1); have P3 := P0.bl ap1; have X3 := X0.bl ap1; have R3 := R0.bl ap1; have x30 := X3.cell 0; have x31 := X3.cell 1; have x32 := X3.cell 2; have x33 := X3.cell 3; have x34 := X3.cell 4; have x35 := X3.cell 5)
    )
  go_upto_region 4 with (refine wpList_store_mid rfl 80 (.tmp 15) (.tmp 14) rfl g (k * 6) #[.int .i64 id, .bool nm, .int .i64 (sh : Int), .int .i64 (W : Int), .int .i64 (H : Int), .slice (some ⟨rb, 0, none⟩) ll rc] rfl rfl (own1.there hlk.out) (by kernel_rfl) (by simp [Value.oneCell']) ?_)
  have own4 := own1.putAt hlk.out ⟨⟨id, nm, sh, W, H, L⟩, rb, rc⟩
  have by4 := setCells_by (g := g) [.int .i64 id, .bool nm, .int .i64 (sh : Int), .int .i64 (W : Int), .int .i64 (H : Int), .slice (some ⟨rb, 0, none⟩) ll rc] w3 (k * 6)
  have e6 : w3.setCells g (k * shB.n) (shB.c ⟨⟨id, nm, sh, W, H, L⟩, rb, rc⟩) = w3.setCells g (k * 6) [.int .i64 id, .bool nm, .int .i64 (sh : Int), .int .i64 (W : Int), .int .i64 (H : Int), .slice (some ⟨rb, 0, none⟩) ll rc] := by rw [← hll.out]; rfl
  rw [e6] at own4
  change w3.grownBy (w3.setCells g (k * 6) [.int .i64 id, .bool nm, .int .i64 (sh : Int), .int .i64 (W : Int), .int .i64 (H : Int), .slice (some ⟨rb, 0, none⟩) ll rc]) (some g) at by4
  clear e6
  generalize w3.setCells g (k * 6) [.int .i64 id, .bool nm, .int .i64 (sh : Int), .int .i64 (W : Int), .int .i64 (H : Int), .slice (some ⟨rb, 0, none⟩) ll rc] = v4 at *
  have P4 := P3.grown by4 (by simp; omega)
  have R4 := R3.grown by4 (by simp; omega)
  have G4 : Bl w v4 := (G0.bl.trans ap1).grown by4 (fun j hj => by cases hj; omega)
  have p40 := P4.cell 0
  have p4f := P4.free 0
  have r40 := R4.cell 0
  have r4f := R4.free 0
  clear own1 ap1 by4 x30 x31 x32 x33 x34 x35 P3 R3 X3 P0 R0 X0 G0
  go_wp2
  have R5 := (R4.far (p := ⟨w.heap.size, 0, none⟩) (by simp) (.slice (some ⟨g, 0, none⟩) D.length c1)).put 0 (.slice (some ⟨g, 0, none⟩) D.length c1)
  have d0 := R5.cell 0
  simp at d0
  have own5 := (own4.set (p := ⟨w.heap.size, 0, none⟩) (by simp) (.slice (some ⟨g, 0, none⟩) D.length c1)).set (p := ⟨w.heap.size + 2, 0, none⟩) (by simp) (.slice (some ⟨g, 0, none⟩) D.length c1)
  have G5 := (G4.setCell (p := ⟨w.heap.size, 0, none⟩) (Nat.le_refl _) (.slice (some ⟨g, 0, none⟩) D.length c1)).setCell (p := ⟨w.heap.size + 2, 0, none⟩) (by simp) (.slice (some ⟨g, 0, none⟩) D.length c1)
  have hrd := own5.rd
  exact bodyPost_ret (v := .agg #[.slice (some ⟨g, 0, none⟩) D.length c1]) (by simp [results, Try.results39, go_sem, d0]) rfl ⟨g, c1, by rw [List.length_set], by omega, hrd, G5⟩
end

end Go.Proofs.Ytkaaagggbclofaa
