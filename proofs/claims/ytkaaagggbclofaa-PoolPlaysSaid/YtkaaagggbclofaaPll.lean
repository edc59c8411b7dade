/-
  What is proved: what the document's Make hands back. Conditions: at most 1000 buffers, none held more than 1000 times.
-/
import Derived.Test.YtkaaagggbclofaaPlh
import Derived.Deep.DeepCutAuto
namespace Go.Proofs.Ytkaaagggbclofaa
open Go.ChangeShapes Go.WideShapes Go.ChangeAt Go.RowKit Go.Joins Go.Sort Go.Deep Go.Maps

/-- A new one behind all of them, in a list of its own. -/
theorem DcQ.push {w w' : World} {A : Option Addr} {c : Nat} {D : List Db} {S : List Bf} {f : Value → Value} (h : DcR w A c D S) {x : Db} {g c' : Nat} {u : Bf} (G : Bl w w') (hx : x.s = u) (hrow : RowN .u32 w' x.b 0 x.s.L) (hb : w.heap.size ≤ x.b)
    (hrd : shB.Rd w' (some ⟨g, 0, none⟩) (D ++ [x])) (hg : w.heap.size ≤ g) : DcQ w A D (S ++ [u]) f (.returned (f (.agg #[.slice (some ⟨g, 0, none⟩) (D.length + 1) c']))) w' := by
  refine ⟨some ⟨g, 0, none⟩, c', D ++ [x], by rw [List.length_append]; rfl, ⟨by unfold bfs; rw [List.map_append, ← h.is]; simp [bfs, hx], hrd, fun d hd => ?_, by simp, by simp⟩, G, fun X hX hA => ⟨fun a ha hxa => ?_, fun d' hd' hxd => ?_⟩⟩
  · rcases List.mem_append.1 hd with hd | hd
    · exact (h.rows d hd).bl G
    · rw [List.mem_singleton] at hd; subst hd; exact hrow
  · cases ha
    have := hX _ hxa
    simp at this
    omega
  · rcases List.mem_append.1 hd' with hd' | hd'
    · exact hA.2 d' hd' hxd
    · rw [List.mem_singleton] at hd'; subst hd'
      have := hX _ hxd; omega

section
variable {w : World} {A : Option Addr} {c n : Nat} {D : List Db} {S : List Bf}
set_option maxRecDepth 100000 in
set_option maxHeartbeats 1000000 in
theorem rMakeR (h : DcR w A c D S) (ok : OkS n S) (hn : n ≤ 1000) (i W H : Int) (q : Int) (hq : ((plF i S).isSome = true ∧ q = 6) ∨ ((plF i S).isSome = false ∧ badW W H ∧ q = 1)) :
    Calls Try.prog 23 #[.agg #[.slice A D.length c], .int .i64 i, .int .i64 W, .int .i64 H] w (DcQ w A D S (fun p => .tuple #[p, .int .i64 (-1), .int .i64 q])) := by
  have hDl : D.length ≤ 1000 := by have := h.len; have := ok.few; omega
  have g0 := ((Gr.refl w).alloc (.cells #[.slice A D.length c] 27)).alloc (.cells #[.slice none 0 0] 27)
  have P0 := (At.new w #[.slice A D.length c] 27).alloc (.cells #[.slice none 0 0] 27)
  have R0 := At.newAt (w := w.alloc (.cells #[.slice A D.length c] 27)) (n := w.heap.size + 1) (by simp) #[.slice none 0 0] 27
  have cT := rFind12 (c := c) (h.rd.bl g0.bl) hDl i
  rw [h.is] at cT
  unfold plN at cT
  rcases hq with ⟨hf, rfl⟩ | ⟨hf, hb, rfl⟩
  · cases ha : plF i S with
    | none => rw [ha] at hf; cases hf
    | some k =>
      rw [ha] at cT
      dsimp only at cT
      have hk0 : decide ((0 : Int) ≤ (k : Int)) = true := by simp
      clear ha hf
      go_enter Try.func23, Try.ntmps23
      go_wp2_with fail
      refine cT.mono ?_
      rintro e v1 ⟨rfl, g1⟩
      have P1 := (P0.gr g1).cell 0
      have R1 := (R0.gr g1)
      have r0 := R1.cell 0
      have rf := R1.free 0
      clear cT
      go_wp2
      have R2 := R1.put 0 (.slice A D.length c)
      have d0 := R2.cell 0
      simp at d0
      exact bodyPost_ret (v := .tuple #[.agg #[.slice A D.length c], .int .i64 (-1), .int .i64 6]) (by simp [results, Try.results23, go_sem, d0]) rfl (DcQ.same (f := fun p => .tuple #[p, .int .i64 (-1), .int .i64 6]) h ((g0.trans g1).bl.setCell (p := ⟨w.heap.size + 1, 0, none⟩) (by simp) _))
  · cases ha : plF i S with
    | some k => rw [ha] at hf; cases hf
    | none =>
      rw [ha] at cT
      dsimp only at cT
      unfold badW at hb
      have hb' : (decide (W < 1) = true) ∨ (decide (W < 1) = false ∧ decide (256 < W) = true) ∨ (decide (W < 1) = false ∧ decide (256 < W) = false ∧ decide (H < 1) = true) ∨ (decide (W < 1) = false ∧ decide (256 < W) = false ∧ decide (H < 1) = false ∧ decide (256 < H) = true) := by
        simp only [decide_eq_true_eq, decide_eq_false_iff_not]; omega
      clear ha hf hb
      go_enter Try.func23, Try.ntmps23
      go_wp2_with fail
      refine cT.mono ?_
      rintro e v1 ⟨rfl, g1⟩
      have P1 := (P0.gr g1).cell 0
      have R1 := (R0.gr g1)
      have r0 := R1.cell 0
      have rf := R1.free 0
      clear cT
      have R2 := R1.put 0 (.slice A D.length c)
      have d0 := R2.cell 0
      simp at d0
      rcases hb' with q1 | ⟨q1, q2⟩ | ⟨q1, q2, q3⟩ | ⟨q1, q2, q3, q4⟩
      all_goals
        go_wp2
        exact bodyPost_ret (v := .tuple #[.agg #[.slice A D.length c], .int .i64 (-1), .int .i64 1]) (by simp [results, Try.results23, go_sem, d0]) rfl (DcQ.same (f := fun p => .tuple #[p, .int .i64 (-1), .int .i64 1]) h ((g0.trans g1).bl.setCell (p := ⟨w.heap.size + 1, 0, none⟩) (by simp) _))

set_option maxRecDepth 100000 in
set_option maxHeartbeats 1000000 in
theorem rMakeN (h : DcR w A c D S) (ok : OkS n S) (hn : n ≤ 1000) (i : Int) (W H : Nat) (hf : plF i S = none) (w1 : 1 ≤ W) (w2 : W ≤ 256) (h1 : 1 ≤ H) (h2 : H ≤ 256) :
    Calls Try.prog 23 #[.agg #[.slice A D.length c], .int .i64 i, .int .i64 (W : Int), .int .i64 (H : Int)] w (DcQ w A D (S ++ [newB i W H]) (fun p => .tuple #[p, .int .i64 (S.length : Int), .int .i64 0])) := by
  have hlen := h.len
  have hDl : D.length ≤ 1000 := by have := ok.few; omega
  have g0 := ((Gr.refl w).alloc (.cells #[.slice A D.length c] 27)).alloc (.cells #[.slice none 0 0] 27)
  have P0 := (At.new w #[.slice A D.length c] 27).alloc (.cells #[.slice none 0 0] 27)
  have R0 := At.newAt (w := w.alloc (.cells #[.slice A D.length c] 27)) (n := w.heap.size + 1) (by simp) #[.slice none 0 0] 27
  have cT := rFind12 (c := c) (h.rd.bl g0.bl) hDl i
  rw [h.is] at cT
  unfold plN at cT
  rw [hf] at cT
  dsimp only at cT
  have cN := fun V => refNew1 W H V w2 h2
  have q1 : decide ((W : Int) < 1) = false := by simp; omega
  have q2 : decide ((256 : Int) < (W : Int)) = false := by simp; omega
  have q3 : decide ((H : Int) < 1) = false := by simp; omega
  have q4 : decide ((256 : Int) < (H : Int)) = false := by simp; omega
  have hnil := h.nil
  have hr0 := Lib.hid (fun (V : World) (g : Gr w V) => h.rd.bl g.bl)
  have hnb : (⟨i, true, 0, W, H, List.replicate (W * H) 0⟩ : Bf) = newB i (W : Int) (H : Int) := by simp [newB]
  have fin := Lib.hid (fun (V : World) (G : Bl w V) (g c' b : Nat) (hrow : RowN .u32 V b 0 (List.replicate (W * H) 0)) (hb : w.heap.size ≤ b) (hrd : shB.Rd V (some ⟨g, 0, none⟩) (D ++ [⟨⟨i, true, 0, W, H, List.replicate (W * H) 0⟩, b, W * H⟩])) (hg : w.heap.size ≤ g) =>
    DcQ.push (f := fun p => .tuple #[p, .int .i64 (S.length : Int), .int .i64 0]) (c' := c') (x := ⟨⟨i, true, 0, W, H, List.replicate (W * H) 0⟩, b, W * H⟩) (u := newB i W H) h G hnb hrow hb hrd hg)
  rw [← hlen] at fin ⊢
  have hXc : ∀ b : Nat, (#[.int .i64 i, .bool true, .int .i64 0, .int .i64 (W : Int), .int .i64 (H : Int), .slice (some ⟨b, 0, none⟩) (W * H) (W * H)] : Array Value).toList = shB.c ⟨⟨i, true, 0, W, H, List.replicate (W * H) 0⟩, b, W * H⟩ := fun b => by simp [shB, Db.cells]
  have p1 : wrap64 (((D.length + 1 : Nat) : Int) - 1) = (D.length : Int) := by rw [Int.natCast_add]; rw [show ((D.length : Int) + (1 : Nat) - 1) = (D.length : Int) by omega]; exact w64 (by omega) (by omega)
  have p2 : IntKind.i64.wrap (((D.length + 1 : Nat) : Int) - 1) = (D.length : Int) := by rw [Int.natCast_add]; rw [show ((D.length : Int) + (1 : Nat) - 1) = (D.length : Int) by omega]; exact IntWalk.i64_in _ (by omega)
  generalize newB i (W : Int) (H : Int) = nB at *
  generalize hLr : List.replicate (W * H) (0 : Int) = Lr at *
  replace hLr := Lib.hid hLr
  generalize W * H = wh at *
  replace hXc := Lib.hid hXc
  clear hlen hf ok hnb w1 w2 h1 h2 h
  go_enter Try.func23, Try.ntmps23
  go_wp2_with fail
  refine cT.mono ?_
  rintro e v1 ⟨rfl, g1⟩
  have G1 := g0.trans g1
  have P1 := P0.gr g1
  have R1 := R0.gr g1
  have p10 := P1.cell 0
  have hr1 := hr0.out v1 G1
  have hszR := R1.lt
  clear cT P0 R0 hr0
  go_upto_region 8 with (first
    | (at_builtin; refine Shp.wp_app (S := shB) Try.underlying25 infoB rfl (by decide) rfl (.tmp 32) (.tmp 34) rfl none 0 [] rfl v1.heap.size (Shp.Ow.nil _ _) A c D rfl hnil hr1 (by simp; omega) (Nat.le_refl _) ?_; intro A1 c1 w3 own1 ap1 lies1; rw [List.nil_append] at own1; simp only [List.length_nil, Nat.zero_add]; replace ap1 := By.none ap1; have hl1 := own1.lies)
    | (go_at_call 37; refine (cN _).mono ?_; rintro e w4 ⟨b', rfl, C4, hb4, g4⟩)
    | (at_builtin; refine Shp.wp_app (S := shB) Try.underlying25 infoB rfl (by decide) rfl (.tmp 36) (.tmp 42) rfl A1 c1 D rfl v1.heap.size ((own1.bl g4.bl).bl ((Bl.refl _).alloc _)) (some ⟨w4.heap.size, 0, none⟩) 1 [⟨⟨i, true, 0, W, H, Lr⟩, b', wh⟩] rfl (by simp) (Shp.Rd.new1 (At.new _ _ _) (hXc.out b')) (by simp; omega) (by have h1 := ap1.size; have h2 := g4.size; simp; omega) ?_; intro A2 c2 w5 own2 ap2 lies2; simp only [List.length_cons, List.length_nil, Nat.zero_add]; obtain ⟨g, rfl, hg1, hg2⟩ : ∃ g, A2 = some ⟨g, 0, none⟩ ∧ v1.heap.size ≤ g ∧ g < w5.heap.size := (by rcases own_addr own2 with ⟨_, _, h1⟩ | h1; (simp at h1); exact h1); have G5 : Bl v1 w5 := (own1.bl g4.bl).app_bl ap2 ((ap1.trans g4.bl).alloc _) (Nat.le_refl _); have P5 := P1.bl G5; have R5 := R1.bl G5; have p50 := P5.cell 0; have p5f := P5.free 0))
  have hrow5 : RowN .u32 w5 b' 0 Lr := (C4.rowC.bl ((Bl.refl w4).alloc (.cells #[.int .i64 i, .bool true, .int .i64 0, .int .i64 (W : Int), .int .i64 (H : Int), .slice (some ⟨b', 0, none⟩) wh wh] 80))).kept ap2 (by
    rcases hl1 with h | ⟨g', h, _, h3⟩
    · rw [h]; simp
    · rw [h]; simp; omega)
  have hb4' := hb4
  have hs1 := ap1.size
  have hG1 := G1.size
  have P6 := P5.put 0 (.slice (some ⟨g, 0, none⟩) (D.length + 1) c2)
  have R6 := R5.far (p := ⟨w.heap.size, 0, none⟩) (by simp) (.slice (some ⟨g, 0, none⟩) (D.length + 1) c2)
  have row6 := hrow5.far (p := ⟨w.heap.size, 0, none⟩) (by show b' ≠ w.heap.size; omega) (.slice (some ⟨g, 0, none⟩) (D.length + 1) c2)
  have own6 := own2.set (p := ⟨w.heap.size, 0, none⟩) (by show w.heap.size < v1.heap.size; omega) (.slice (some ⟨g, 0, none⟩) (D.length + 1) c2)
  have G6 := (G1.bl.trans G5).setCell (p := ⟨w.heap.size, 0, none⟩) (Nat.le_refl _) (.slice (some ⟨g, 0, none⟩) (D.length + 1) c2)
  simp at P6
  clear p50 p5f P5 R5 G5 own2 own1 ap2 ap1 hrow5 C4 lies1 lies2 P1 R1 p10 hr1 hXc hl1
  generalize w5.setCell ⟨w.heap.size, 0, none⟩ (.slice (some ⟨g, 0, none⟩) (D.length + 1) c2) = w6 at *
  have SK := Lib.hid (fun (V : World) (g' : w6.grownBy V (some (w.heap.size + 1))) => (show V.cell? ⟨w.heap.size, 0, none⟩ = some (.slice (some ⟨g, 0, none⟩) (D.length + 1) c2) ∧ w6.grownBy V (some (w.heap.size + 1)) from ⟨(P6.grown g' (by simp)).cell 0, g'⟩))
  have FIN := Lib.hid (show _ ∧ (w6.setCell ⟨w.heap.size + 1, 0, none⟩ (.slice (some ⟨g, 0, none⟩) (D.length + 1) c2)).drew.cell? ⟨w.heap.size + 1, 0, none⟩ = some (.slice (some ⟨g, 0, none⟩) (D.length + 1) c2) from
    ⟨fin.out _ ((G6.setCell (p := ⟨w.heap.size + 1, 0, none⟩) (by simp) (.slice (some ⟨g, 0, none⟩) (D.length + 1) c2)).drew) g c2 b' ((row6.far (p := ⟨w.heap.size + 1, 0, none⟩) (by show b' ≠ w.heap.size + 1; omega) (.slice (some ⟨g, 0, none⟩) (D.length + 1) c2)).bl ((Bl.refl _).drew)) (by omega) ((own6.rd.by (By.set (p := ⟨w.heap.size + 1, 0, none⟩) (By.refl _ _) _) (.inr (.inr (by simp; omega)))).bl ((Bl.refl _).drew)) (by omega),
     by simpa using ((R6.put 0 (.slice (some ⟨g, 0, none⟩) (D.length + 1) c2)).drew.cell 0)⟩)
  have r0 := R6.cell 0
  have rf := R6.free 0
  clear fin P6 R6 row6 own6 G6
  go_region_held3 (fun V => V.cell? ⟨w.heap.size, 0, none⟩ = some (.slice (some ⟨g, 0, none⟩) (D.length + 1) c2) ∧ w6.grownBy V (some (w.heap.size + 1))) ((refine SK.out _ ?_; repeat (first | with_reducible assumption | with_reducible exact By.refl _ _ | with_reducible exact By.set (p := ⟨w.heap.size + 1, 0, none⟩) (By.refl _ _) _ | with_reducible apply by_drew))) (fail)
  go_wp2
  have p3 : IntKind.i64.wrap (D.length : Int) = (D.length : Int) := IntWalk.i64_in _ (by omega)
  exact bodyPost_ret (v := .tuple #[.agg #[(.slice (some ⟨g, 0, none⟩) (D.length + 1) c2)], .int .i64 (D.length : Int), .int .i64 0]) (by simp [results, Try.results23, go_sem, FIN.out.2, p3]) rfl FIN.out.1

theorem rMake12 (h : DcR w A c D S) (ok : OkS n S) (hn : n ≤ 1000) (i W H : Int) : Calls Try.prog 23 #[.agg #[.slice A D.length c], .int .i64 i, .int .i64 W, .int .i64 H] w (DcQ w A D (mkS S i W H) (fun p => .tuple #[p, .int .i64 (mkN S i W H), .int .i64 (mkE S i W H)])) := by
  unfold mkS mkN mkE
  cases hf : plF i S with
  | some k =>
    simp only [Option.isSome_some, if_true]
    exact rMakeR h ok hn i W H 6 (.inl ⟨by rw [hf]; rfl, rfl⟩)
  | none =>
    simp only [Option.isSome_none, Bool.false_eq_true, if_false]
    by_cases hb : badW W H
    · simp only [if_pos hb]
      exact rMakeR h ok hn i W H 1 (.inr ⟨by rw [hf]; rfl, hb, rfl⟩)
    · simp only [if_neg hb]
      unfold badW at hb
      obtain ⟨W', rfl⟩ : ∃ W' : Nat, W = (W' : Int) := ⟨W.toNat, by omega⟩
      obtain ⟨H', rfl⟩ : ∃ H' : Nat, H = (H' : Int) := ⟨H.toNat, by omega⟩
      exact rMakeN h ok hn i W' H' hf (by omega) (by omega) (by omega) (by omega)
end

end Go.Proofs.Ytkaaagggbclofaa
