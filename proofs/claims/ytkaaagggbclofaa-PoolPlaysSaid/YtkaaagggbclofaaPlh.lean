/-
  What is proved: what the document's Hold, Let and Destroy hand back. Conditions: at most 1000 buffers, none held more than 1000 times.
-/
import Derived.Test.YtkaaagggbclofaaPlg
namespace Go.Proofs.Ytkaaagggbclofaa
open Go.ChangeShapes Go.WideShapes Go.ChangeAt Go.RowKit Go.Joins Go.Sort Go.Deep Go.Maps

/-- A pool as the document has it. -/
structure DcR (w : World) (A : Option Addr) (c : Nat) (D : List Db) (S : List Bf) : Prop where
  is : bfs D = S
  rd : shB.Rd w A D
  rows : ∀ d ∈ D, RowN .u32 w d.b 0 d.s.L
  nil : A = none → c = 0
  emp : D = [] → A = none
/-- It lies in no block of X. -/
def DcX (X : Nat → Prop) (A : Option Addr) (D : List Db) : Prop := (∀ a, A = some a → ¬ X a.block) ∧ ∀ d ∈ D, ¬ X d.b
theorem DcR.bl {w w' : World} {A : Option Addr} {c : Nat} {D : List Db} {S : List Bf} (h : DcR w A c D S) (g : Bl w w') : DcR w' A c D S := ⟨h.is, h.rd.bl g, fun d hd => (h.rows d hd).bl g, h.nil, h.emp⟩
theorem DcR.at {w : World} {A : Option Addr} {c : Nat} {D : List Db} {S : List Bf} (h : DcR w A c D S) {k : Nat} {s : Bf} (hk : S[k]? = some s) : ∃ d, D[k]? = some d ∧ d.s = s := by
  rw [← h.is] at hk
  unfold bfs at hk
  rw [List.getElem?_map] at hk
  cases hd : D[k]? with
  | none => rw [hd] at hk; cases hk
  | some d => rw [hd] at hk; exact ⟨d, rfl, by simpa using hk⟩
theorem DcR.kx {X : Nat → Prop} {w w' : World} {A : Option Addr} {c : Nat} {D : List Db} {S : List Bf} (h : DcR w A c D S) (g : Kx X w w') (hX : DcX X A D) : DcR w' A c D S := by
  refine ⟨h.is, ?_, fun d hd j x hj => g.cell (h.rows d hd j x hj) (hX.2 d hd), h.nil, h.emp⟩
  rcases h.rd with h | ⟨b, off, rfl, hr⟩
  · exact .inl h
  · exact .inr ⟨b, off, rfl, fun k x hk j u hj => g.cell (hr k x hk j u hj) (hX.1 ⟨b, off, none⟩ rfl)⟩
theorem DcX.grow {X X' : Nat → Prop} {w : World} {A : Option Addr} {c n : Nat} {D : List Db} {S : List Bf} (hX : DcX X A D) (h : DcR w A c D S) (ok : OkS n S) (hg : ∀ j, X' j → X j ∨ w.heap.size ≤ j) : DcX X' A D := by
  refine ⟨fun a ha hxa => ?_, fun d hd hxd => ?_⟩
  · rcases hg _ hxa with e | e
    · exact hX.1 a ha e
    · have hne : D ≠ [] := fun e => by have := h.emp e; rw [ha] at this; cases this
      have := h.rd.lt hne (k := a.block) (by rw [ha]; rfl)
      omega
  · rcases hg _ hxd with e | e
    · exact hX.2 d hd e
    · obtain ⟨j, hj⟩ := List.getElem?_of_mem hd
      have hs : d.s ∈ S := by rw [← h.is]; exact List.mem_map_of_mem hd
      have hl : 0 < d.s.L.length := by rw [ok.len _ hs]; exact Nat.mul_pos (ok.w1 _ hs) (ok.h1 _ hs)
      obtain ⟨x, hx⟩ := list_at hl
      have := World.block_lt_of_cell? w _ (h.rows d hd 0 x hx)
      simp at this
      omega
theorem DcR.len {w : World} {A : Option Addr} {c : Nat} {D : List Db} {S : List Bf} (h : DcR w A c D S) : D.length = S.length := by rw [← h.is, bfs_len]
def DcQ (w : World) (A : Option Addr) (D : List Db) (S' : List Bf) (f : Value → Value) (e : Ending) (w' : World) : Prop :=
  ∃ A' c' D', e = .returned (f (.agg #[.slice A' D'.length c'])) ∧ DcR w' A' c' D' S' ∧ Bl w w' ∧ ∀ X : Nat → Prop, (∀ k, X k → k < w.heap.size) → DcX X A D → DcX X A' D'
theorem DcQ.same {w w' : World} {A : Option Addr} {c : Nat} {D : List Db} {S : List Bf} {f : Value → Value} (h : DcR w A c D S) (g : Bl w w') : DcQ w A D S f (.returned (f (.agg #[.slice A D.length c]))) w' := ⟨A, c, D, rfl, h.bl g, g, fun _ _ h => h⟩
/-- One of them is otherwise, in a list of its own. -/
theorem DcQ.put {w w' : World} {A : Option Addr} {c : Nat} {D : List Db} {S : List Bf} {f : Value → Value} (h : DcR w A c D S) {k : Nat} {d x : Db} (hk : D[k]? = some d) {g c' : Nat} {u : Bf} (G : Bl w w') (hx : x.s = u) (hrow : RowN .u32 w' x.b 0 x.s.L) (hb : x.b = d.b ∨ w.heap.size ≤ x.b)
    (hrd : shB.Rd w' (some ⟨g, 0, none⟩) (D.set k x)) (hg : w.heap.size ≤ g) : DcQ w A D (S.set k u) f (.returned (f (.agg #[.slice (some ⟨g, 0, none⟩) D.length c']))) w' := by
  refine ⟨some ⟨g, 0, none⟩, c', D.set k x, by rw [List.length_set], ⟨by rw [bfs_set, h.is, hx], hrd, fun d hd => ?_, by simp, fun e => by have e2 := congrArg List.length e; have := (List.getElem?_eq_some_iff.1 hk).1; rw [List.length_set, List.length_nil] at e2; omega⟩, G, fun X hX hA => ⟨fun a ha hxa => ?_, fun d' hd' hxd => ?_⟩⟩
  · rcases List.mem_or_eq_of_mem_set hd with hd | rfl
    · exact (h.rows d hd).bl G
    · exact hrow
  · cases ha
    have := hX _ hxa
    simp at this
    omega
  · rcases List.mem_or_eq_of_mem_set hd' with hd' | rfl
    · exact hA.2 d' hd' hxd
    · rcases hb with hb | hb
      · rw [hb] at hxd; exact hA.2 d (List.mem_of_getElem? hk) hxd
      · have := hX _ hxd; omega

section
variable {w : World} {A : Option Addr} {c n : Nat} {D : List Db} {S : List Bf}
set_option maxRecDepth 100000 in
set_option maxHeartbeats 1000000 in
theorem rHold12 (h : DcR w A c D S) (ok : OkS n S) (hn : n ≤ 1000) (m : Int) (hm : I64 m) : Calls Try.prog 26 #[.agg #[.slice A D.length c], .int .i64 m] w (DcQ w A D (hoS S m) (fun p => .tuple #[p, .int .i64 (hoE S m)])) := by
  have hDl : D.length ≤ 1000 := by have := h.len; have := ok.few; omega
  have g0 := ((Gr.refl w).alloc (.cells #[.slice A D.length c] 27)).alloc (.cells #[.slice none 0 0] 27)
  have P0 := (At.new w #[.slice A D.length c] 27).alloc (.cells #[.slice none 0 0] 27)
  have R0 := At.newAt (w := w.alloc (.cells #[.slice A D.length c] 27)) (n := w.heap.size + 1) (by simp) #[.slice none 0 0] 27
  have cT := rThere1 (c := c) (h.rd.bl g0.bl) hDl m hm
  rw [h.is] at cT
  unfold hoS hoE
  cases ha : atS S m with
  | none =>
    rw [ha] at cT
    go_enter Try.func26, Try.ntmps26
    go_wp2_with fail
    refine cT.mono ?_
    rintro e v1 ⟨rfl, g1⟩
    have P1 := (P0.gr g1).cell 0
    have R1 := (R0.gr g1)
    have r0 := R1.cell 0
    have rf := R1.free 0
    clear cT
    go_wp2
    have R2 := R1.put 0 (.slice A D.length c)
    have d0 := R2.cell 0
    simp at d0
    exact bodyPost_ret (v := .tuple #[.agg #[.slice A D.length c], .int .i64 5]) (by simp [results, Try.results26, go_sem, d0]) rfl (DcQ.same (f := fun p => .tuple #[p, .int .i64 5]) h ((g0.trans g1).bl.setCell (p := ⟨w.heap.size + 1, 0, none⟩) (by simp) _))
  | some k =>
    rw [ha] at cT
    obtain ⟨s, rfl, hk, ht, hg⟩ := atS_some ha
    dsimp only
    rw [hg]
    obtain ⟨d, hd, rfl⟩ := h.at hk
    have hkl := (List.getElem?_eq_some_iff.1 hd).1
    obtain ⟨b, off, rfl, hrow⟩ := h.rd.opened (by omega)
    have hE := Lib.hid (fun (V : World) (g : Gr w V) => db_at (hrow.bl g.bl) hd)
    have hle := ok.hds d.s (List.mem_of_getElem? hk)
    have w1 : wrap64 ((d.s.hd : Int) + 1) = ((d.s.hd + 1 : Nat) : Int) := by rw [Int.natCast_add]; exact w64 (by omega) (by omega)
    have w2 : IntKind.i64.wrap ((d.s.hd : Int) + 1) = ((d.s.hd + 1 : Nat) : Int) := by rw [Int.natCast_add]; exact IntWalk.i64_in _ (by omega)
    have cW := Lib.hid (fun (V : World) (g : Gr w V) => rWith1 (c := c) (h.rd.bl g.bl) (by simp) hDl k hkl ⟨{ d.s with hd := d.s.hd + 1 }, d.b, d.c⟩)
    have hrr := h.rows d (List.mem_of_getElem? hd)
    have fin := Lib.hid (fun (V : World) (G : Bl w V) (g c' : Nat) (hrd : shB.Rd V (some ⟨g, 0, none⟩) (D.set k ⟨{ d.s with hd := d.s.hd + 1 }, d.b, d.c⟩)) (hg : w.heap.size ≤ g) => DcQ.put (f := fun p => .tuple #[p, .int .i64 0]) (c' := c') (x := ⟨{ d.s with hd := d.s.hd + 1 }, d.b, d.c⟩) (u := { d.s with hd := d.s.hd + 1 }) h hd G rfl (hrr.bl G) (.inl rfl) hrd hg)
    obtain ⟨⟨id, nm, sh, W, H, L⟩, rb, rc⟩ := d
    simp only [Db.cells] at hE cW fin w1 w2 ⊢
    generalize hs1 : sh + 1 = s1 at *
    generalize hlL : L.length = ll at *
    replace hs1 := Lib.hid hs1
    replace hlL := Lib.hid hlL
    clear ha hk ht hg hrr hrow h ok hd
    go_enter Try.func26, Try.ntmps26
    go_wp2_with fail
    refine cT.mono ?_
    rintro e v1 ⟨rfl, g1⟩
    have P1 := P0.gr g1
    have R1 := R0.gr g1
    have p0 := P1.cell 0
    obtain ⟨e0, e1, e2, e3, e4, e5⟩ := hE.out v1 (g0.trans g1)
    have q1 := (P1.alloc (.cells #[.int .i64 id, .bool nm, .int .i64 (s1 : Int), .int .i64 (W : Int), .int .i64 (H : Int), .slice (some ⟨rb, 0, none⟩) ll rc] 80)).cell 0
    clear cT P0 R0
    go_wp2_with fail
    refine (cW.out _ ((g0.trans g1).alloc _)).mono ?_
    rintro e v4 ⟨g, c4, rfl, hg4, hrd4, g4⟩
    have R4 := (R1.alloc (.cells #[.int .i64 id, .bool nm, .int .i64 (s1 : Int), .int .i64 (W : Int), .int .i64 (H : Int), .slice (some ⟨rb, 0, none⟩) ll rc] 80)).bl g4
    have G4 := ((g0.trans g1).alloc (.cells #[.int .i64 id, .bool nm, .int .i64 (s1 : Int), .int .i64 (W : Int), .int .i64 (H : Int), .slice (some ⟨rb, 0, none⟩) ll rc] 80)).bl.trans g4
    have r0 := R4.cell 0
    have rf := R4.free 0
    have hsz := R1.lt
    rw [List.length_set] 
    simp at hg4
    clear e0 e1 e2 e3 e4 e5 p0 q1 R1 cW hE
    go_wp2
    have R5 := R4.put 0 (.slice (some ⟨g, 0, none⟩) D.length c4)
    have d0 := R5.cell 0
    simp at d0
    have G5 := G4.setCell (p := ⟨w.heap.size + 1, 0, none⟩) (by simp) (.slice (some ⟨g, 0, none⟩) D.length c4)
    exact bodyPost_ret (v := .tuple #[.agg #[.slice (some ⟨g, 0, none⟩) D.length c4], .int .i64 0]) (by simp [results, Try.results26, go_sem, d0]) rfl (fin.out _ G5 g c4 (hrd4.by (By.set (p := ⟨w.heap.size + 1, 0, none⟩) (By.refl v4 _) _) (.inr (.inr (by simp; omega)))) (by omega))
end

end Go.Proofs.Ytkaaagggbclofaa
