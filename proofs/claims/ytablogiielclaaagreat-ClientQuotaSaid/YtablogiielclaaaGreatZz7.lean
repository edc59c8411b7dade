/-
  What is proved: what the document's own 'merge' hands back of two lists of rectangles: the region of the points that are kept. what Union, Cut, Less, Other of package region hand back of two regions, and Of of any rectangles.
-/
import Derived.Test.YtablogiielclaaaGreatZz6
import Derived.Test.YtablogiielclaaaGreatZz5
import Derived.Deep.RegionHeld3
import Derived.IntWalk
namespace Go.Proofs.YtablogiielclaaaGreat
open Go.RowKit Go.Sort

attribute [local go_sem ↓] run_min2 run_max2

def updY (y : Int) (L : List Rc) (j : Nat) : List Rc := (L.take j).map (fun r => ⟨r.a, r.b, r.c, y⟩) ++ L.drop j
theorem updY_len (y : Int) (L : List Rc) (j : Nat) : (updY y L j).length = L.length := by
  unfold updY; simp; omega
theorem updY_at {y : Int} {L : List Rc} {j : Nat} {r : Rc} (h : L[j]? = some r) : (updY y L j)[j]? = some r := by
  have hl := get_lt h
  unfold updY
  rw [List.getElem?_append_right (by simp; omega), List.getElem?_drop]
  simp only [List.length_map, List.length_take]
  rw [show j + (j - min j L.length) = j from by omega, h]
theorem updY_set {y : Int} {L : List Rc} {j : Nat} {r : Rc} (h : L[j]? = some r) : (updY y L j).set j ⟨r.a, r.b, r.c, y⟩ = updY y L (j + 1) := by
  have hl := get_lt h
  unfold updY
  rw [List.set_append_right _ _ (by simp; omega), take_more h, List.map_append, List.append_assoc]
  congr 1
  simp only [List.length_map, List.length_take]
  rw [show j - min j L.length = 0 from by omega, List.drop_eq_getElem_cons hl]
  rfl
theorem bandE_map (y0 y1 z : Int) : ∀ E : List Int, (bandE y0 y1 E).map (fun r => (⟨r.a, r.b, r.c, z⟩ : Rc)) = bandE y0 z E
  | [] => rfl
  | [x] => rfl
  | x :: u :: E => by
    show _ :: _ = _ :: _
    rw [bandE_map y0 y1 z E]
theorem row_rects {y0 y1 : Int} {E : List Int} {W : List Rc} (h : W = bandE y0 y1 E) : W = rectsL (if E = [] then none else some (⟨y0, y1, E⟩ : Bn)).toList := by
  by_cases hE : E = []
  · rw [if_pos hE, h, hE]; rfl
  · rw [if_neg hE, h]; show _ = bandE y0 y1 E ++ []; rw [List.append_nil]
theorem far_rows {B B0 s s0 : Nat} {A A0 : Option Addr} (h : A = none ∨ ∃ k, A = some ⟨k, 0, none⟩ ∧ B ≤ k ∧ k < s) (h0 : A0 = none ∨ ∃ k, A0 = some ⟨k, 0, none⟩ ∧ B0 ≤ k ∧ k < s0) (hs : s0 ≤ B := by omega) : A = none ∨ A.map (·.block) ≠ A0.map (·.block) := by
  rcases h with h | ⟨k, rfl, h1, _⟩
  · exact .inl h
  · right
    rcases h0 with rfl | ⟨k0, rfl, _, h2⟩
    · simp
    · simp; omega
theorem far_block {B g s : Nat} {A : Option Addr} (h : A = none ∨ ∃ k, A = some ⟨k, 0, none⟩ ∧ B ≤ k ∧ k < s) (hg : g < B) : some g ≠ A.map (·.block) := by
  rcases h with rfl | ⟨k, rfl, h1, _⟩
  · simp
  · simp; omega
theorem cR_set : ∀ (L : List Rc) (k : Nat) (r r' : Rc) (j : Nat) (u : Value), L[k]? = some r → j < 4 → c4 r' = (c4 r).set j u → cR (L.set k r') = (cR L).set (k * 4 + j) u
  | [], k, r, r', j, u, h, _, _ => by simp at h
  | q :: l, 0, r, r', j, u, h, hj, he => by
    simp at h; subst h
    simp only [List.set_cons_zero]
    unfold cR
    rw [he, List.set_append_left _ _ (by simp [c4]; omega)]; simp
  | q :: l, k + 1, r, r', j, u, h, hj, he => by
    simp only [List.set_cons_succ]
    show c4 q ++ cR (l.set k r') = (c4 q ++ cR l).set ((k + 1) * 4 + j) u
    rw [List.set_append_right _ _ (by simp [c4]; omega)]
    rw [show (k + 1) * 4 + j - (c4 q).length = k * 4 + j from by simp [c4]; omega]
    rw [cR_set l k r r' j u (by simpa using h) hj he]

set_option maxRecDepth 100000 in
set_option maxHeartbeats 64000000 in
theorem refmerge1 (A B : Option Addr) (c d : Nat) (a b : List Rc) (how : Int) (X Y : List Int) (w : World) (hA : Rs w A a) (hB : Rs w B b) (la : a.length ≤ 100000) (lb : b.length ≤ 100000) (hh : how = 0 ∨ how = 1 ∨ how = 2 ∨ how = 3)
    (hX : Grid X Y) (ia : ∀ r ∈ a ++ b, emptyB r.a r.b r.c r.d = false → r.a ∈ X ∧ r.c ∈ X ∧ r.b ∈ Y ∧ r.d ∈ Y) :
    Calls Tryz.prog 138 #[.slice A a.length c, .slice B b.length d, .int .i64 how] w (RR w (MQ X Y a b (kpN how))) := by
  have lab : (a ++ b).length = a.length + b.length := List.length_append
  obtain ⟨n, hn⟩ : ∃ n, n = a.length := ⟨_, rfl⟩
  obtain ⟨m, hm⟩ : ∃ m, m = b.length := ⟨_, rfl⟩
  rw [← hn, ← hm] at lab ⊢
  have hn1 : n ≤ 100000 := by omega
  have hm1 : m ≤ 100000 := by omega
  replace hn := Lib.hid hn
  replace hm := Lib.hid hm
  replace lab := Lib.hid lab
  clear la lb
  go_enter Tryz.func138, Tryz.ntmps138
  go_wp2
  go_loopw [7, 8, 9] (fun vx vy i wr => ∃ (k : Nat) (Ax Ay : Option Addr) (cx cy : Nat) (xs ys : List Int), k ≤ n + m ∧ vx = .slice Ax xs.length cx ∧ vy = .slice Ay ys.length cy ∧ i = .int .i64 k ∧ Is wr Ax xs ∧ Is wr Ay ys ∧ Hid (Axk (a ++ b) k xs ys) ∧ Bl w wr)
    (fun _ _ i _ => n + m - (intOf i).toNat)
  case atStart => exact ⟨0, none, none, 0, 0, [], [], Nat.zero_le _, rfl, rfl, rfl, Is.nil _ _, Is.nil _ _, Lib.hid (Axk.start _), Bl.refl _⟩
  case round =>
    obtain ⟨k, Ax, Ay, cx, cy, xs, ys, hk, rfl, rfl, rfl, ix, iy, ax, G⟩ := hrel
    by_cases hlt : k < n + m
    · obtain ⟨⟨ra, rb, rc, rd⟩, hr⟩ := list_at (show k < (a ++ b).length by have := lab.out; omega)
      have hxi := ax.out.xi
      have hyi := ax.out.yi
      have hxl := ax.out.xl
      have hyl := ax.out.yl
      have hlti : (k : Int) < (n : Int) + (m : Int) := by omega
      have cases2 : (k < n ∧ ∃ b0 o0, A = some ⟨b0, o0, none⟩ ∧ wr.cell? ⟨b0, o0 + k * 4, none⟩ = some (.int .i64 ra) ∧ wr.cell? ⟨b0, o0 + k * 4 + 1, none⟩ = some (.int .i64 rb) ∧ wr.cell? ⟨b0, o0 + k * 4 + 2, none⟩ = some (.int .i64 rc) ∧ wr.cell? ⟨b0, o0 + k * 4 + 3, none⟩ = some (.int .i64 rd)) ∨
          (¬ k < n ∧ ∃ b0 o0, B = some ⟨b0, o0, none⟩ ∧ wr.cell? ⟨b0, o0 + (k - n) * 4, none⟩ = some (.int .i64 ra) ∧ wr.cell? ⟨b0, o0 + (k - n) * 4 + 1, none⟩ = some (.int .i64 rb) ∧ wr.cell? ⟨b0, o0 + (k - n) * 4 + 2, none⟩ = some (.int .i64 rc) ∧ wr.cell? ⟨b0, o0 + (k - n) * 4 + 3, none⟩ = some (.int .i64 rd)) := by
        have hn' := hn.out
        have hm' := hm.out
        by_cases h : k < n
        · left
          rw [List.getElem?_append_left (by omega)] at hr
          obtain ⟨b0, o0, e0, row⟩ := hA.opened (by omega)
          exact ⟨h, b0, o0, e0, (row.bl G) k _ hr⟩
        · right
          rw [List.getElem?_append_right (by omega), ← hn'] at hr
          obtain ⟨b0, o0, e0, row⟩ := hB.opened (by omega)
          exact ⟨h, b0, o0, e0, (row.bl G) (k - n) _ hr⟩
      have c1 := refempty1 ra rb rc rd
      have bx0 := At.new wr #[.int .i64 ra, .int .i64 rb, .int .i64 rc, .int .i64 rd] 31
      have szo := G.size
      by_cases he : emptyB ra rb rc rd = true
      · have ax' := Lib.hid (ax.out.skip hr he)
        rw [he] at c1
        clear he hr
        rcases cases2 with ⟨h, b0, o0, rfl, e1, e2, e3, e4⟩ | ⟨h, b0, o0, rfl, e1, e2, e3, e4⟩
        all_goals
          have lb0 := World.block_lt_of_cell? wr _ e1
          go_wp2_with fail
          refine (c1 _).mono ?_
          rintro e W1 ⟨rfl, g1⟩
          have G1 : Bl w W1 := (G.alloc _).gr g1
          have gw : Bl wr W1 := ((Bl.refl wr).alloc _).gr g1
          clear e1 e2 e3 e4 g1 lb0
          go_wp2
          refine ⟨⟨k + 1, Ax, Ay, cx, cy, xs, ys, by omega, rfl, rfl, by go_num, ix.bl gw, iy.bl gw, ax', G1⟩, ?_⟩
          simp [intOf]
          omega
      · simp only [Bool.not_eq_true] at he
        have axs := Lib.hid (fun (x3 y3 x2 y2 : List Int) (a1 : Adds xs ra x2) (a2 : Adds x2 rc x3) (b1 : Adds ys rb y2) (b2 : Adds y2 rd y3) => ax.out.step hr he a1 a2 b1 b2)
        rw [he] at c1
        clear he hr
        have lbx := bx0.lt
        rcases cases2 with ⟨h, b0, o0, rfl, e1, e2, e3, e4⟩ | ⟨h, b0, o0, rfl, e1, e2, e3, e4⟩
        all_goals
          have lb0 := World.block_lt_of_cell? wr _ e1
          go_wp2_with fail
          refine (c1 _).mono ?_
          rintro e W1 ⟨rfl, g1⟩
          have G1 : Bl w W1 := (G.alloc _).gr g1
          have gw : Bl wr W1 := ((Bl.refl wr).alloc _).gr g1
          have bx := bx0.gr g1
          have ix1 := ix.bl gw
          have iy1 := iy.bl gw
          have n0 := bx.cell 0
          have n1 := bx.cell 1
          have n2 := bx.cell 2
          have n3 := bx.cell 3
          simp only [List.getElem?_toArray, List.getElem?_cons_zero, List.getElem?_cons_succ] at n0 n1 n2 n3
          clear e1 e2 e3 e4 g1 lb0 ix iy bx0 bx G gw c1
          go_wp2
          go_region_held3 (fun w' => w'.cell? ⟨wr.heap.size, 0, none⟩ = some (.int .i64 ra) ∧ w'.cell? ⟨wr.heap.size, 2, none⟩ = some (.int .i64 rc)) (go_keep)
            ((first
              | (go_at_call_of 196 (Value.int IntKind.i64 ra); (refine (refadd1 Ax cx xs ra _ (ix1.bl (by first | exact Bl.refl _ | exact (Bl.refl _).drew)) hxi (by omega)).mono ?_); rintro e W2 ⟨A2, c2, x2, rfl, is2, ad2, g2⟩; have q0 := g2.keep n0; have q2 := g2.keep n2)
              | (go_at_call_of 196 (Value.int IntKind.i64 rc); (refine (refadd1 A2 c2 x2 rc _ (is2.bl (by first | exact Bl.refl _ | exact (Bl.refl _).drew)) ad2.inc (by have := ad2.len; omega)).mono ?_); rintro e W3 ⟨A3, c3, x3, rfl, is3, ad3, g3⟩; have p0 := g3.keep q0; have p2 := g3.keep q2)))
          have G3 : Bl W1 W3 := ((Bl.refl W1).drew.trans g2).trans g3
          have m1 := G3.keep n1
          have m3 := G3.keep n3
          have iy3 := iy1.bl G3
          have ad2 := Lib.hid ad2
          have ad3 := Lib.hid ad3
          have GG := G1.trans G3
          clear q0 q2 p0 p2 n0 n1 n2 n3 iy1 ix1 is2 G1 g2 g3
          go_wp2
          go_region_held3 (fun w' => w'.cell? ⟨wr.heap.size, 1, none⟩ = some (.int .i64 rb) ∧ w'.cell? ⟨wr.heap.size, 3, none⟩ = some (.int .i64 rd)) (go_keep)
            ((first
              | (go_at_call_of 196 (Value.int IntKind.i64 rb); (refine (refadd1 Ay cy ys rb _ (iy3.bl (by first | exact Bl.refl _ | exact (Bl.refl _).drew)) hyi (by omega)).mono ?_); rintro e W4 ⟨A4, c4, y2, rfl, is4, ad4, g4⟩; have q1 := g4.keep m1; have q3 := g4.keep m3)
              | (go_at_call_of 196 (Value.int IntKind.i64 rd); (refine (refadd1 A4 c4 y2 rd _ (is4.bl (by first | exact Bl.refl _ | exact (Bl.refl _).drew)) ad4.inc (by have := ad4.len; omega)).mono ?_); rintro e W5 ⟨A5, c5, y3, rfl, is5, ad5, g5⟩; have p1 := g5.keep q1; have p3 := g5.keep q3)))
          have G5 : Bl W3 W5 := ((Bl.refl W3).drew.trans g4).trans g5
          have fin := Lib.hid (axs.out x3 y3 x2 y2 ad2.out ad3.out ad4 ad5)
          clear m1 m3 q1 q3 p1 p3 iy3 is4 g4 g5
          go_wp2
          go_roundw
          case rel => exact ⟨k + 1, A3, A5, c3, c5, x3, y3, by omega, rfl, rfl, by go_num, is3.bl G5, is5, fin, GG.trans G5⟩
          case measure => simp [intOf]; omega
    · have hkk : k = n + m := by omega
      have axes : Axes a b xs ys := by
        have h1 := ax.out
        rw [hkk, hn.out, hm.out] at h1
        exact h1.axes
      have hXX : Hid (∀ e ∈ xs, e ∈ X) := Lib.hid (fun e he => by
        obtain ⟨r, h1, h2, h3⟩ := (axes.xm e).1 he
        obtain ⟨q1, q2, _⟩ := ia r h1 h2
        rcases h3 with rfl | rfl
        · exact q1
        · exact q2)
      have hYY : Hid (∀ e ∈ ys, e ∈ Y) := Lib.hid (fun e he => by
        obtain ⟨r, h1, h2, h3⟩ := (axes.ym e).1 he
        obtain ⟨_, _, q1, q2⟩ := ia r h1 h2
        rcases h3 with rfl | rfl
        · exact q1
        · exact q2)
      have hxl : xs.length ≤ 1000 := Nat.le_trans (inc_len xs X axes.xi fun e he => by
        obtain ⟨r, h1, h2, h3⟩ := (axes.xm e).1 he
        obtain ⟨q1, q2, _⟩ := ia r h1 h2
        rcases h3 with rfl | rfl
        · exact q1
        · exact q2) hX.x
      have hyl : ys.length ≤ 1000 := Nat.le_trans (inc_len ys Y axes.yi fun e he => by
        obtain ⟨r, h1, h2, h3⟩ := (axes.ym e).1 he
        obtain ⟨_, _, q1, q2⟩ := ia r h1 h2
        rcases h3 with rfl | rfl
        · exact q1
        · exact q2) hX.y
      have hlti : ¬ (k : Int) < (n : Int) + (m : Int) := by omega
      have kp0 : kpN how false false = false := by rcases hh with rfl | rfl | rfl | rfl <;> rfl
      have st0 := Lib.hid (OInv.start (kp := kpN how) axes kp0)
      have axes := Lib.hid axes
      have hA2 := hA.bl G
      have hB2 := hB.bl G
      have szw := G.size
      clear hkk ax hA hB
      obtain ⟨w0, hw0⟩ : ∃ w0 : World, w0 = wr := ⟨_, rfl⟩
      subst hw0
      go_wp2
      go_loopw [11, 12, 13] (fun vo vl i w2 => ∃ (q : Nat) (Ao Al : Option Addr) (co cl : Nat) (Bs : List Bn) (t : Option Bn) (O Lq : List Rc), vo = .slice Ao O.length co ∧ vl = .slice Al Lq.length cl ∧ i = .int .i64 q ∧ Hid (OInv a b (kpN how) ys xs q Bs t) ∧ Hid (O = rectsL Bs) ∧ Hid (Lq = rectsL t.toList) ∧
          OwR w2 w0.heap.size Ao co O ∧ OwR w2 w0.heap.size Al cl Lq ∧ (Lq = [] → Al = none ∧ cl = 0) ∧ (Al = none ∨ Al.map (·.block) ≠ Ao.map (·.block)) ∧ Bl w0 w2 ∧ (q + 1 ≤ ys.length ∨ q = 0)) (fun _ _ i _ => ys.length - (intOf i).toNat)
      case atStart => exact ⟨0, none, none, 0, 0, [], none, [], [], rfl, rfl, rfl, st0, Lib.hid rfl, Lib.hid rfl, OwR.nil _ _, OwR.nil _ _, fun _ => ⟨rfl, rfl⟩, .inl rfl, Bl.refl _, .inr rfl⟩
      case round =>
        obtain ⟨q, Ao, Al, co, cl, Bs, t, O, Lq, rfl, rfl, rfl, inv, hO, hL, oo, ol, hnil, hne, G2, hqb⟩ := hrel
        have lens : O.length ≤ 1000000 ∧ Lq.length ≤ 1000000 := by
          have h1 := rects_len inv.out.wk (X := xs) (Y := ys) fun c hc => by
            obtain ⟨q1, q2, q3⟩ := inv.out.ed c hc
            exact ⟨q2, q3, q1⟩
          rw [rectsL_app, List.length_append, ← hO.out, ← hL.out] at h1
          have h2 := Nat.mul_le_mul hyl hxl
          omega
        obtain ⟨lO, lL⟩ := lens
        by_cases hlt2 : q + 1 < ys.length
        · obtain ⟨y0, h0⟩ := list_at (show q < ys.length by omega)
          obtain ⟨y1, h1⟩ := list_at hlt2
          obtain ⟨by0, oy0, rfl, ry⟩ := iy.opened (by omega)
          have hq1 : (q : Int) + 1 < (ys.length : Int) := by omega
          have hq0 : (q : Int) < (ys.length : Int) := by omega
          have szo := G2.size
          have cols := axes.out.cols kp0 y0
          have rst := Lib.hid (RInv.start cols)
          have cols := Lib.hid cols
          replace h0 := Lib.hid h0
          replace h1 := Lib.hid h1
          obtain ⟨wo, hwo⟩ : ∃ wo : World, wo = wr := ⟨_, rfl⟩
          subst hwo
          go_wp2
          go_loopw [14, 15] (fun vw i w3 => ∃ (k : Nat) (Aw : Option Addr) (cw : Nat) (E : List Int) (W : List Rc), vw = .slice Aw W.length cw ∧ i = .int .i64 k ∧ Hid (RInv (fun x => kpN how (hasL a x y0) (hasL b x y0)) xs k E) ∧ Hid (W = bandE y0 y1 E) ∧
              OwR w3 wo.heap.size Aw cw W ∧ (W = [] → Aw = none ∧ cw = 0) ∧ Bl wo w3 ∧ (k + 1 ≤ xs.length ∨ k = 0)) (fun _ i _ => xs.length - (intOf i).toNat)
          case atStart => exact ⟨0, none, 0, [], [], rfl, rfl, rst, Lib.hid rfl, OwR.nil _ _, fun _ => ⟨rfl, rfl⟩, Bl.refl _, .inr rfl⟩
          case round =>
            obtain ⟨k', Aw, cw, E, W, rfl, rfl, ri, hW, ow, hWn, G3, hkb⟩ := hrel
            by_cases hlt3 : k' + 1 < xs.length
            · obtain ⟨x0, hx0⟩ := list_at (show k' < xs.length by omega)
              obtain ⟨x1, hx1⟩ := list_at hlt3
              obtain ⟨bx0, ox0, rfl, rx⟩ := ix.opened (by omega)
              have hk1 : (k' : Int) + 1 < (xs.length : Int) := by omega
              have hk0 : (k' : Int) < (xs.length : Int) := by omega
              have G23 := G2.trans G3
              have Ex := fun n os => (rx.bl ((G23.drewN n).grow os)) k' x0 hx0
              have Ey := fun n os => (ry.bl ((G23.drewN n).grow os)) q y0 h0.out
              have ca := fun n os => refHas1 A c a x0 y0 _ (hA2.bl ((G23.drewN n).grow os)) (by have := hn.out; omega)
              have cb := fun n os => refHas1 B d b x0 y0 _ (hB2.bl ((G23.drewN n).grow os)) (by have := hm.out; omega)
              have ck := fun (w : World) => (refkeep1 (hasL a x0 y0) (hasL b x0 y0) how w hh).mono (R' := Rt w (.bool (kpN how (hasL a x0 y0) (hasL b x0 y0)))) (fun e w' ⟨h1, h2⟩ => ⟨h1, by rw [← h2]; exact Gr.refl _⟩)
              rw [← hn.out] at ca
              rw [← hm.out] at cb
              replace hx0 := Lib.hid hx0
              replace hx1 := Lib.hid hx1
              by_cases hP : kpN how (hasL a x0 y0) (hasL b x0 y0) = true
              · -- KEPT
                rw [hP] at ck
                have lbx : bx0 < wo.heap.size := World.block_lt_of_cell? _ _ ((rx.bl G2) k' x0 hx0.out)
                have lby : by0 < wo.heap.size := World.block_lt_of_cell? _ _ ((ry.bl G2) q y0 h0.out)
                have evE := ri.out.even
                rcases even_snoc evE with hE0 | ⟨F, p, qq, hE0, hF⟩
                · have hW0 : W = [] := by rw [hW.out, hE0]; rfl
                  have rif := Lib.hid (ri.out.fresh cols.out hx0.out hx1.out hP (by intro F p qq h; rw [hE0] at h; simp at h))
                  subst hW0
                  obtain ⟨rfl, rfl⟩ := hWn rfl
                  have hE0 := Lib.hid hE0
                  clear hP evE
                  replace hE0 := hE0
                  go_wp2
                  refine wp_region_quiet_grown (by kernel_rfl) (by kernel_rfl) ?_
                  repeat (first | go_big_quiet_step ((first | (go_at_call 197; exact Calls.grown (ck _)) | (go_at_call 20; with_reducible exact Calls.grown (ca _ _)) | (go_at_call 20; with_reducible exact Calls.grown (cb _ _)))) | quiet_step ((first | (go_at_call 197; exact Calls.grown (ck _)) | (go_at_call 20; with_reducible exact Calls.grown (ca _ _)) | (go_at_call 20; with_reducible exact Calls.grown (cb _ _)))))
                  refine wpQuiet_nil ?_
                  intro W8 g8
                  replace g8 : Gr _ W8 := g8
                  have ow8 := ow.bl g8.bl
                  have GW8 := G3.gr g8
                  clear Ex Ey ca cb ck g8 ow G3 G23
                  go_wp2
                  refine wp_region_quiet_grown (by kernel_rfl) (by kernel_rfl) ?_
                  repeat (first | go_big_quiet_step (fail) | quiet_step (fail))
                  refine wpQuiet_nil ?_
                  intro V g9
                  replace g9 : Gr _ V := g9
                  have owV := ow8.bl g9.bl
                  have GV := GW8.gr g9
                  have GVV := G2.trans GV
                  clear g9 ow8 GW8
                  have px0 := (rx.bl GVV) k' x0 hx0.out
                  have px1 := (rx.bl GVV) (k' + 1) x1 hx1.out
                  have py0 := (ry.bl GVV) q y0 h0.out
                  have py1 := (ry.bl GVV) (q + 1) y1 h1.out
                  have w1 : IntKind.i64.wrap ((k' : Int) + 1) = (k' : Int) + 1 := IntWalk.i64_in _ (by omega)
                  have w2 : ((k' : Int) + 1).toNat = k' + 1 := by omega
                  have w3' : (0 : Int) ≤ (k' : Int) + 1 := by omega
                  have w4 : IntKind.i64.wrap ((q : Int) + 1) = (q : Int) + 1 := IntWalk.i64_in _ (by omega)
                  have w5 : ((q : Int) + 1).toNat = q + 1 := by omega
                  have w6 : (0 : Int) ≤ (q : Int) + 1 := by omega
                  have lx := World.block_lt_of_cell? _ _ px0
                  have ly := World.block_lt_of_cell? _ _ py0
                  have nex := far_block owV.lies lbx
                  have ney := far_block owV.lies lby
                  have szV := GV.size
                  have lW : (([] : List Rc)).length ≤ 100000 := by simp
                  go_wp2
                  go_region_held3 (fun w' => w'.cell? ⟨bx0, ox0 + k', none⟩ = some (.int .i64 x0) ∧ w'.cell? ⟨by0, oy0 + q, none⟩ = some (.int .i64 y0) ∧ w'.cell? ⟨bx0, ox0 + (k' + 1), none⟩ = some (.int .i64 x1) ∧ w'.cell? ⟨by0, oy0 + (q + 1), none⟩ = some (.int .i64 y1))
                    (first
                      | go_keep
                      | (refine ⟨?_, ?_, ?_, ?_⟩
                         · (rw [apV.1.cell_far _ (by simp; omega) nex]; simp [*])
                         · (rw [apV.1.cell_far _ (by simp; omega) ney]; simp [*])
                         · (rw [apV.1.cell_far _ (by simp; omega) nex]; simp [*])
                         · (rw [apV.1.cell_far _ (by simp; omega) ney]; simp [*])))
                    ((refine step_app_r (by rfl) (.tmp 126) (.tmp 146) (by rfl) (none) 0 (([] : List Rc)) (by rfl) wo.heap.size ((owV.bl ((Bl.refl V).alloc _)).bl (Bl.refl _).drew) V.heap.size ⟨x0, y0, x1, y1⟩ 1 (by rfl) (At.drew (At.new V _ _)) (by omega) (by simp; omega) ?_; intro A5 c5 w5' own5 apV))
                  clear w1 w2 w3' w4 w5 w6 px0 px1 py0 py1
                  go_wp2
                  go_roundw
                  case rel => exact ⟨k' + 1, A5, c5, (E ++ [x0, x1]), (([] : List Rc)) ++ [⟨x0, y0, x1, y1⟩], by simp, by go_num, Lib.hid rif.out, Lib.hid (by rw [hE0.out]; rfl), own5, fun h => by simp at h, apV.bl ((GV.alloc _).drew) ((owV.bl ((Bl.refl V).alloc _)).bl (Bl.refl _).drew).lies (Nat.le_refl _), .inl (by omega)⟩
                  case measure => simp [intOf]; omega
                · have hW0 : W = bandE y0 y1 F ++ [⟨p, y0, qq, y1⟩] := by rw [hW.out, hE0, bandE_snoc _ _ _ _ _ hF]
                  obtain ⟨W0, hWW⟩ : ∃ W0, W0 = bandE y0 y1 F := ⟨_, rfl⟩
                  rw [← hWW] at hW0
                  subst hW0
                  obtain ⟨g, rfl, hg1, hg2⟩ : ∃ g, Aw = some ⟨g, 0, none⟩ ∧ wo.heap.size ≤ g ∧ g < wr.heap.size := by
                    rcases ow.addr with ⟨_, _, h⟩ | h
                    · simp at h
                    · exact h
                  obtain ⟨v, hv0⟩ : ∃ v, v = W0.length := ⟨_, rfl⟩
                  have hv : (W0 ++ [(⟨p, y0, qq, y1⟩ : Rc)]).length = v + 1 := by simp [hv0]
                  have hkt : (W0 ++ [(⟨p, y0, qq, y1⟩ : Rc)])[v]? = some ⟨p, y0, qq, y1⟩ := by subst hv0; simp
                  have hvl : v + 1 ≤ 100000 := by have := ri.out.len; have h5 := congrArg List.length hW.out; rw [bandE_len] at h5; omega
                  rw [hv]
                  replace hv := Lib.hid hv
                  replace hkt := Lib.hid hkt
                  replace hv0 := Lib.hid hv0
                  replace hWW := Lib.hid hWW
                  have wv : IntKind.i64.wrap (v : Int) = (v : Int) := IntWalk.i64_in _ (by omega)
                  have wm : max (v : Int) 0 = (v : Int) := by omega
                  by_cases hq : qq = x0
                  · replace hq := hq.symm
                    subst hq
                    have rif := Lib.hid ((show RInv _ xs k' (F ++ [p, x0]) from by rw [← hE0]; exact ri.out).on cols.out hx0.out hx1.out hP)
                    replace hE0 := Lib.hid hE0
                    clear hP evE
                    go_wp2
                    refine wp_region_quiet_grown (by kernel_rfl) (by kernel_rfl) ?_
                    repeat (first | go_big_quiet_step ((first | (go_at_call 197; exact Calls.grown (ck _)) | (go_at_call 20; with_reducible exact Calls.grown (ca _ _)) | (go_at_call 20; with_reducible exact Calls.grown (cb _ _)))) | quiet_step ((first | (go_at_call 197; exact Calls.grown (ck _)) | (go_at_call 20; with_reducible exact Calls.grown (ca _ _)) | (go_at_call 20; with_reducible exact Calls.grown (cb _ _)))))
                    refine wpQuiet_nil ?_
                    intro W8 g8
                    replace g8 : Gr _ W8 := g8
                    have ow8 := ow.bl g8.bl
                    have GW8 := G3.gr g8
                    clear Ex Ey ca cb ck g8 ow G3 G23
                    have GWW := G2.trans GW8
                    have Ex := fun n os => (rx.bl ((GWW.drewN n).grow os)) k' x0 hx0.out
                    have Eg0 := fun n os => (ow8.row.bl (((Bl.refl W8).drewN n).grow os)) v _ hkt.out
                    simp only [Nat.zero_add] at Eg0
                    have Eg := fun n os => (Eg0 n os).2.2.1
                    clear Eg0
                    go_wp2
                    refine wp_region_quiet_grown (by kernel_rfl) (by kernel_rfl) ?_
                    repeat (first | go_big_quiet_step (fail) | quiet_step (fail))
                    refine wpQuiet_nil ?_
                    intro V g9
                    replace g9 : Gr _ V := g9
                    have owV := ow8.bl g9.bl
                    have GV := GW8.gr g9
                    have GVV := G2.trans GV
                    clear g9 ow8 GW8 GWW Ex Eg wv wm
                    have px0 := (rx.bl GVV) k' x0 hx0.out
                    have px1 := (rx.bl GVV) (k' + 1) x1 hx1.out
                    have py0 := (ry.bl GVV) q y0 h0.out
                    have py1 := (ry.bl GVV) (q + 1) y1 h1.out
                    obtain ⟨z1, z2, z3, z4⟩ := owV.row v _ hkt.out
                    simp only [Nat.zero_add] at z1 z2 z3 z4
                    have fz := owV.free
                    have szV := GV.size
                    go_wp2
                    have st := World.ownsRow.stored (j := v * 4 + 2) (u := .int .i64 x1) owV
                    go_roundw
                    case rel =>
                      refine ⟨k' + 1, some ⟨g, 0, none⟩, cw, F ++ [p, x1], W0 ++ [⟨p, y0, x1, y1⟩], by simp [hv0.out], by go_num, rif, Lib.hid (by rw [hWW.out, bandE_snoc _ _ _ _ _ hF]), ?_, fun h => by simp at h, ?_, .inl (by omega)⟩
                      · have hs := cR_set (W0 ++ [(⟨p, y0, x0, y1⟩ : Rc)]) v _ ⟨p, y0, x1, y1⟩ 2 (.int .i64 x1) hkt.out (by omega) rfl
                        have hm : (W0 ++ [(⟨p, y0, x0, y1⟩ : Rc)]).set v ⟨p, y0, x1, y1⟩ = W0 ++ [⟨p, y0, x1, y1⟩] := by rw [hv0.out]; simp
                        rw [hm] at hs
                        unfold OwR
                        rw [hs]
                        have hl : (W0 ++ [(⟨p, y0, x1, y1⟩ : Rc)]).length = (W0 ++ [(⟨p, y0, x0, y1⟩ : Rc)]).length := by simp
                        rw [hl]
                        exact st.1
                      · exact GV.grown st.2 (fun k hk => by injection hk with hk; omega)
                    case measure => simp [intOf]; omega
                  · have hqe : (qq == x0) = false := beq_false_of_ne hq
                    have rif := Lib.hid (ri.out.fresh cols.out hx0.out hx1.out hP (by intro F' p' q' h; rw [hE0] at h; exact fun h2 => hq (by have h3 := (List.append_inj h (by have := congrArg List.length h; simp at this; omega)).2; injection h3 with _ h4; injection h4 with h5 _; rw [h5, h2])))
                    replace hE0 := Lib.hid hE0
                    clear hP evE
                    go_wp2
                    refine wp_region_quiet_grown (by kernel_rfl) (by kernel_rfl) ?_
                    repeat (first | go_big_quiet_step ((first | (go_at_call 197; exact Calls.grown (ck _)) | (go_at_call 20; with_reducible exact Calls.grown (ca _ _)) | (go_at_call 20; with_reducible exact Calls.grown (cb _ _)))) | quiet_step ((first | (go_at_call 197; exact Calls.grown (ck _)) | (go_at_call 20; with_reducible exact Calls.grown (ca _ _)) | (go_at_call 20; with_reducible exact Calls.grown (cb _ _)))))
                    refine wpQuiet_nil ?_
                    intro W8 g8
                    replace g8 : Gr _ W8 := g8
                    have ow8 := ow.bl g8.bl
                    have GW8 := G3.gr g8
                    clear Ex Ey ca cb ck g8 ow G3 G23
                    have GWW := G2.trans GW8
                    have Ex := fun n os => (rx.bl ((GWW.drewN n).grow os)) k' x0 hx0.out
                    have Eg0 := fun n os => (ow8.row.bl (((Bl.refl W8).drewN n).grow os)) v _ hkt.out
                    simp only [Nat.zero_add] at Eg0
                    have Eg := fun n os => (Eg0 n os).2.2.1
                    clear Eg0
                    go_wp2
                    refine wp_region_quiet_grown (by kernel_rfl) (by kernel_rfl) ?_
                    repeat (first | go_big_quiet_step (fail) | quiet_step (fail))
                    refine wpQuiet_nil ?_
                    intro V g9
                    replace g9 : Gr _ V := g9
                    have owV := ow8.bl g9.bl
                    have GV := GW8.gr g9
                    have GVV := G2.trans GV
                    clear g9 ow8 GW8 GWW Ex Eg wv wm
                    have px0 := (rx.bl GVV) k' x0 hx0.out
                    have px1 := (rx.bl GVV) (k' + 1) x1 hx1.out
                    have py0 := (ry.bl GVV) q y0 h0.out
                    have py1 := (ry.bl GVV) (q + 1) y1 h1.out
                    have w1 : IntKind.i64.wrap ((k' : Int) + 1) = (k' : Int) + 1 := IntWalk.i64_in _ (by omega)
                    have w2 : ((k' : Int) + 1).toNat = k' + 1 := by omega
                    have w3' : (0 : Int) ≤ (k' : Int) + 1 := by omega
                    have w4 : IntKind.i64.wrap ((q : Int) + 1) = (q : Int) + 1 := IntWalk.i64_in _ (by omega)
                    have w5 : ((q : Int) + 1).toNat = q + 1 := by omega
                    have w6 : (0 : Int) ≤ (q : Int) + 1 := by omega
                    have lx := World.block_lt_of_cell? _ _ px0
                    have ly := World.block_lt_of_cell? _ _ py0
                    have nex := far_block owV.lies lbx
                    have ney := far_block owV.lies lby
                    have szV := GV.size
                    have lW : (W0 ++ [(⟨p, y0, qq, y1⟩ : Rc)]).length ≤ 100000 := by have := ri.out.len; have h5 := congrArg List.length hW.out; rw [bandE_len] at h5; simp only [List.length_append, List.length_cons, List.length_nil] at h5 ⊢; omega
                    go_wp2
                    go_region_held3 (fun w' => w'.cell? ⟨bx0, ox0 + k', none⟩ = some (.int .i64 x0) ∧ w'.cell? ⟨by0, oy0 + q, none⟩ = some (.int .i64 y0) ∧ w'.cell? ⟨bx0, ox0 + (k' + 1), none⟩ = some (.int .i64 x1) ∧ w'.cell? ⟨by0, oy0 + (q + 1), none⟩ = some (.int .i64 y1))
                      (first
                        | go_keep
                        | (refine ⟨?_, ?_, ?_, ?_⟩
                           · (rw [apV.1.cell_far _ (by simp; omega) nex]; simp [*])
                           · (rw [apV.1.cell_far _ (by simp; omega) ney]; simp [*])
                           · (rw [apV.1.cell_far _ (by simp; omega) nex]; simp [*])
                           · (rw [apV.1.cell_far _ (by simp; omega) ney]; simp [*])))
                      ((refine step_app_r (by rfl) (.tmp 126) (.tmp 146) (by rfl) (some ⟨g, 0, none⟩) cw (W0 ++ [(⟨p, y0, qq, y1⟩ : Rc)]) (by rw [hv.out]; rfl) wo.heap.size ((owV.bl ((Bl.refl V).alloc _)).bl (Bl.refl _).drew) V.heap.size ⟨x0, y0, x1, y1⟩ 1 (by rfl) (At.drew (At.new V _ _)) (by omega) (by simp; omega) ?_; intro A5 c5 w5' own5 apV))
                    clear w1 w2 w3' w4 w5 w6 px0 px1 py0 py1
                    go_wp2
                    go_roundw
                    case rel => exact ⟨k' + 1, A5, c5, (E ++ [x0, x1]), (W0 ++ [(⟨p, y0, qq, y1⟩ : Rc)]) ++ [⟨x0, y0, x1, y1⟩], by simp, by go_num, Lib.hid rif.out, Lib.hid (by rw [hE0.out, hWW.out, bandE_snoc _ _ (F ++ [p, qq]) _ _ (by simp; omega), bandE_snoc _ _ _ _ _ hF]), own5, fun h => by simp at h, apV.bl ((GV.alloc _).drew) ((owV.bl ((Bl.refl V).alloc _)).bl (Bl.refl _).drew).lies (Nat.le_refl _), .inl (by omega)⟩
                    case measure => simp [intOf]; omega
              · simp only [Bool.not_eq_true] at hP
                rw [hP] at ck
                have ri' := Lib.hid (ri.out.skip cols.out hx0.out hx1.out hP)
                clear hP
                go_wp2
                refine wp_region_quiet_grown (by kernel_rfl) (by kernel_rfl) ?_
                repeat (first | go_big_quiet_step ((first | (go_at_call 197; exact Calls.grown (ck _)) | (go_at_call 20; with_reducible exact Calls.grown (ca _ _)) | (go_at_call 20; with_reducible exact Calls.grown (cb _ _)))) | quiet_step ((first | (go_at_call 197; exact Calls.grown (ck _)) | (go_at_call 20; with_reducible exact Calls.grown (ca _ _)) | (go_at_call 20; with_reducible exact Calls.grown (cb _ _)))))
                refine wpQuiet_nil ?_
                intro W8 g8
                replace g8 : Gr _ W8 := g8
                clear Ex Ey ca cb ck
                go_wp2
                refine ⟨⟨k' + 1, Aw, cw, E, W, rfl, by go_num, ri', hW, ow.bl g8.bl, hWn, G3.gr g8, .inl (by omega)⟩, ?_⟩
                simp [intOf]
                omega
            · have rlen := Lib.hid ri.out.len
              have hdone : k' + 1 = xs.length ∨ (xs = [] ∧ E = []) := by
                rcases hkb with h | h
                · left; omega
                · by_cases h3 : xs.length = 0
                  · right; refine ⟨List.eq_nil_of_length_eq_zero h3, List.eq_nil_of_length_eq_zero ?_⟩
                    have := ri.out.len; omega
                  · left; omega
              have stp := inv.out.step axes.out h0.out h1.out ⟨ri.out.inc, ri.out.even⟩ ri.out.sub (ri.out.done cols.out hdone)
              have evE := Lib.hid ri.out.even
              replace stp := Lib.hid stp
              have szo2 := G3.size
              have G23 := G2.trans G3
              have hlt3i : ¬ (k' : Int) + 1 < (xs.length : Int) := by omega
              have oo3 := oo.bl G3
              have ol3 := ol.bl G3
              have ool := oo.lies
              clear hdone oo ol ri
              cases t with
              | none =>
                have hLn : Lq = [] := by rw [hL.out]; rfl
                subst hLn
                obtain ⟨rfl, rfl⟩ := hnil rfl
                have stp2 := Lib.hid (stp.out.2 (by simp))
                clear stp
                go_wp2
                refine wp_region_quiet_grown (by kernel_rfl) (by kernel_rfl) ?_
                repeat (first | go_big_quiet_step (fail) | quiet_step (fail))
                refine wpQuiet_nil ?_
                intro W8 g8
                replace g8 : Gr _ W8 := g8
                have G8 := G23.gr g8
                have ow8 := ow.bl g8.bl
                have oo8 := oo3.bl g8.bl
                clear g8
                go_wp2_with (at_builtin; refine wp_app_r0 rfl (.tmp 188) (.tmp 189) rfl Ao co O rfl w0.heap.size oo8 rfl ?_)
                go_roundw
                case rel => exact ⟨q + 1, Ao, Aw, co, cw, Bs ++ (none : Option Bn).toList, (if E = [] then none else some ⟨y0, y1, E⟩), O, W, rfl, rfl, by go_num, stp2, Lib.hid (by rw [hO.out]; simp), Lib.hid (row_rects hW.out), oo8, own_mono ow8 G2.size, hWn, far_rows ow8.lies ool, G8, .inl (by omega)⟩
                case measure => simp [intOf]; omega
              | some cc =>
                obtain ⟨hcE, hcy⟩ := inv.out.last cc rfl
                have hcy1 : cc.y1 = y0 := by rw [h0.out] at hcy; injection hcy with hcy; exact hcy.symm
                have hLb : Lq = bandE cc.y0 cc.y1 cc.E := by rw [hL.out]; show bandE _ _ _ ++ [] = _; rw [List.append_nil]
                have cev : cc.E.length % 2 = 0 := (inv.out.wk.ok cc (by simp)).2.2
                obtain ⟨r0, Lt, hLc⟩ : ∃ r0 Lt, Lq = r0 :: Lt ∧ r0.d = y0 := by
                  cases hE1 : cc.E with
                  | nil => exact absurd hE1 hcE
                  | cons e1 E1 =>
                    cases E1 with
                    | nil => rw [hE1] at cev; simp at cev
                    | cons e2 E2 => exact ⟨⟨e1, cc.y0, e2, cc.y1⟩, _, by rw [hLb, hE1]; rfl, hcy1⟩
                obtain ⟨hLc, hr0⟩ := hLc
                obtain ⟨gl, rfl, hgl1, hgl2⟩ : ∃ g, Al = some ⟨g, 0, none⟩ ∧ w0.heap.size ≤ g ∧ g < wr.heap.size := by
                  rcases ol3.addr with ⟨_, _, h⟩ | h
                  · rw [hLc] at h; cases h
                  · exact h
                have hk0 : Lq[0]? = some r0 := by rw [hLc]; rfl
                have Eg := fun n os => ((ol3.row.bl (((Bl.refl wr).drewN n).grow os)) 0 _ hk0).2.2.2
                simp only [Nat.zero_mul, Nat.zero_add, hr0] at Eg
                have Ey := fun n os => (ry.bl ((G23.drewN n).grow os)) q y0 h0.out
                have hlen : 0 < Lq.length := by rw [hLc]; simp
                have spb := spans_band (y0 := cc.y0) (y1 := cc.y1) (y0' := y0) (y1' := y1) cev evE.out
                rw [← hLb, ← hW.out] at spb
                obtain ⟨vl, hvl⟩ : ∃ vl, Lq.length = vl + 1 := ⟨Lq.length - 1, by omega⟩
                have hvl2 : vl + 1 ≤ 1000000 := by omega
                have wv : IntKind.i64.wrap (vl : Int) = (vl : Int) := IntWalk.i64_in _ (by omega)
                have wm : min (0 : Int) (vl : Int) = 0 := by omega
                have lW : W.length ≤ 100000 := by have h5 := congrArg List.length hW.out; rw [bandE_len] at h5; have := rlen.out; omega
                by_cases hsp : cc.E = E
                · have stp2 := Lib.hid (stp.out.1 cc rfl hsp)
                  rw [decide_eq_true hsp] at spb
                  have csp := fun (w : World) (h1 : Rs w (some ⟨gl, 0, none⟩) Lq) (h2 : Rs w Aw W) => refspans1 (some ⟨gl, 0, none⟩) Aw cl cw Lq W w h1 h2 (by omega) (by omega)
                  rw [spb] at csp
                  replace hsp := Lib.hid hsp
                  replace hLb := Lib.hid hLb
                  rw [hvl]
                  rw [hvl] at csp
                  replace hvl := Lib.hid hvl
                  clear stp spb hLc hk0 hcy hcy1 hr0 hlen hcE
                  go_wp2
                  refine wp_region_quiet_grown (by kernel_rfl) (by kernel_rfl) ?_
                  repeat (first | go_big_quiet_step (fail) | quiet_step (fail))
                  refine wpQuiet_nil ?_
                  intro W8 g8
                  replace g8 : Gr _ W8 := g8
                  have G8 := G23.gr g8
                  have ow8 := ow.bl g8.bl
                  have oo8 := oo3.bl g8.bl
                  have ol8 := ol3.bl g8.bl
                  clear g8 Eg Ey wv wm
                  go_wp2_with fail
                  refine (csp _ ol8.rs ow8.rs).mono ?_
                  rintro e W9 ⟨rfl, g9⟩
                  have G9 := G8.gr g9
                  have oo9 := oo8.bl g9.bl
                  have ol9 := ol8.bl g9.bl
                  clear g9 csp ow8 oo8 ol8 G8 oo3 ol3
                  have neO : Option.map (·.block) Ao ≠ some gl := by
                    rcases hne with h | h
                    · cases h
                    · exact fun h2 => h (by rw [h2]; rfl)
                  have st4 : updY y1 Lq 0 = Lq := by simp [updY]
                  rw [← st4] at ol9
                  clear st4
                  go_wp2
                  go_loopw [18] (fun i w5 => ∃ (j : Nat), j ≤ vl + 1 ∧ i = .int .i64 j ∧ OwR w5 w0.heap.size (some ⟨gl, 0, none⟩) cl (updY y1 Lq j) ∧ OwR w5 w0.heap.size Ao co O ∧ Bl w0 w5) (fun i _ => vl + 1 - (intOf i).toNat)
                  case atStart => exact ⟨0, Nat.zero_le _, rfl, ol9, oo9, G9⟩
                  case round =>
                    obtain ⟨j, hj, rfl, olj, ooj, Gj⟩ := hrel
                    by_cases hlt5 : j < vl + 1
                    · obtain ⟨rj, hrj⟩ := list_at (show j < Lq.length by rw [hvl.out]; exact hlt5)
                      have hrj2 := updY_at (y := y1) hrj
                      obtain ⟨z1, z2, z3, z4⟩ := olj.row j _ hrj2
                      simp only [Nat.zero_add] at z1 z2 z3 z4
                      have fz := olj.free
                      have py1 := (ry.bl Gj) (q + 1) y1 h1.out
                      have hjl : (j : Int) < (vl : Int) + 1 := by omega
                      have st := World.ownsRow.stored (j := j * 4 + 3) (u := .int .i64 y1) olj
                      have hs := cR_set (updY y1 Lq j) j rj ⟨rj.a, rj.b, rj.c, y1⟩ 3 (.int .i64 y1) hrj2 (by omega) rfl
                      rw [updY_set hrj] at hs
                      replace hs := Lib.hid hs
                      replace hrj := Lib.hid hrj
                      have st := Lib.hid st
                      clear hrj2
                      go_wp2
                      go_roundw
                      case rel =>
                        refine ⟨j + 1, by omega, by go_num, ?_, ooj.grown st.out.2 (.inr neO), Gj.grown st.out.2 (fun k hk => by injection hk with hk; omega)⟩
                        unfold OwR
                        rw [hs.out, updY_len, ← updY_len y1 Lq j]
                        exact st.out.1
                      case measure => simp [intOf]; omega
                    · have hjv : j = vl + 1 := by omega
                      have hall : updY y1 Lq j = rectsL (some (⟨cc.y0, y1, cc.E⟩ : Bn)).toList := by
                        rw [hjv, ← hvl.out]
                        unfold updY
                        rw [List.take_length, List.drop_length, List.append_nil, hLb.out, bandE_map]
                        show _ = bandE _ _ _ ++ []
                        rw [List.append_nil]
                      replace hall := Lib.hid hall
                      have hjl : ¬ (j : Int) < (vl : Int) + 1 := by omega
                      go_wp2
                      refine ⟨⟨q + 1, Ao, some ⟨gl, 0, none⟩, co, cl, Bs, some ⟨cc.y0, y1, cc.E⟩, O, updY y1 Lq j, rfl, by rw [updY_len, hvl.out], by go_num, stp2, hO, hall, ooj, olj, fun h => absurd (congrArg List.length h) (by rw [updY_len, hvl.out]; simp), .inr (Ne.symm neO), Gj, .inl (by omega)⟩, ?_⟩
                      simp [intOf]
                      omega
                · have stp2 := Lib.hid (stp.out.2 (fun c hc => by injection hc with hc; subst hc; exact hsp))
                  rw [decide_eq_false hsp] at spb
                  have csp := fun (w : World) (h1 : Rs w (some ⟨gl, 0, none⟩) Lq) (h2 : Rs w Aw W) => refspans1 (some ⟨gl, 0, none⟩) Aw cl cw Lq W w h1 h2 (by omega) (by omega)
                  rw [spb] at csp
                  replace hsp := Lib.hid hsp
                  replace hLb := Lib.hid hLb
                  rw [hvl]
                  rw [hvl] at csp
                  replace hvl := Lib.hid hvl
                  clear stp spb hLc hk0 hcy hcy1 hr0 hlen hcE
                  go_wp2
                  refine wp_region_quiet_grown (by kernel_rfl) (by kernel_rfl) ?_
                  repeat (first | go_big_quiet_step (fail) | quiet_step (fail))
                  refine wpQuiet_nil ?_
                  intro W8 g8
                  replace g8 : Gr _ W8 := g8
                  have G8 := G23.gr g8
                  have ow8 := ow.bl g8.bl
                  have oo8 := oo3.bl g8.bl
                  have ol8 := ol3.bl g8.bl
                  clear g8 Eg Ey wv wm
                  go_wp2_with fail
                  refine (csp _ ol8.rs ow8.rs).mono ?_
                  rintro e W9 ⟨rfl, g9⟩
                  have G9 := G8.gr g9
                  have oo9 := oo8.bl g9.bl
                  have ol9 := ol8.bl g9.bl
                  have ow9 := ow8.bl g9.bl
                  clear g9 csp ow8 oo8 ol8 G8 oo3 ol3
                  have sz9 := G9.size
                  go_wp2_with (at_builtin; refine wp_app_rs rfl (.tmp 188) (.tmp 189) rfl Ao co O rfl w0.heap.size oo9 gl Lq cl w0.heap.size (by rw [hvl.out]; rfl) ol9 (by rw [hvl.out]; omega) (by rw [hvl.out]; omega) sz9 ?_; intro A5 c5 w5 own5 ap5)
                  go_roundw
                  case rel =>
                    have fr := far_rows ow9.lies ool
                    refine ⟨q + 1, A5, Aw, c5, cw, Bs ++ (some cc).toList, (if E = [] then none else some ⟨y0, y1, E⟩), O ++ Lq, W, by simp, rfl, by go_num, stp2, Lib.hid (by rw [rectsL_app, ← hO.out, ← hL.out]), Lib.hid (row_rects hW.out), own5, own_mono (ow9.grown ap5.1 fr) G2.size, hWn, ?_, ap5.bl G9 oo9.lies (Nat.le_refl _), .inl (by omega)⟩
                    rcases ap5.2 with h | h
                    · rw [← h]; exact fr
                    · rw [h]
                      rcases ow9.lies with h2 | ⟨k, h2, _, h3⟩
                      · exact .inl h2
                      · right; rw [h2]; simp; omega
                  case measure => simp [intOf]; omega
        · skip
          have hdone : q + 1 = ys.length ∨ ys = [] := by
            rcases hqb with h | h
            · left; omega
            · by_cases h3 : ys.length = 0
              · exact .inr (List.eq_nil_of_length_eq_zero h3)
              · left; omega
          have fin := inv.out.done axes.out kp0 hdone
          have hmq : MQ X Y a b (kpN how) (rectsL (Bs ++ t.toList)) := by
            refine ⟨inv.out.wk.reg, InB.rects fun c hc => ?_, fin⟩
            obtain ⟨q1, q2, q3⟩ := inv.out.ed c hc
            exact ⟨hYY.out _ q2, hYY.out _ q3, fun e he => hXX.out e (q1 e he)⟩
          replace hmq := Lib.hid hmq
          have hlti2 : ¬ (q : Int) + 1 < (ys.length : Int) := by omega
          clear fin hdone
          have sz2 := G2.size
          cases t with
          | none =>
            have hLn : Lq = [] := by rw [hL.out]; rfl
            subst hLn
            obtain ⟨rfl, rfl⟩ := hnil rfl
            go_wp2_with (at_builtin; refine wp_app_r0 rfl (.tmp 192) (.tmp 193) rfl Ao co O rfl w0.heap.size oo rfl ?_)
            go_ret
            exact ⟨Ao, co, O, rfl, own_mono oo szw, by rw [hO.out]; simpa using hmq.out, G.trans G2⟩
          | some cc =>
            obtain ⟨hcE, _⟩ := inv.out.last cc rfl
            have cev : cc.E.length % 2 = 0 := (inv.out.wk.ok cc (by simp)).2.2
            have hlen : 0 < Lq.length := by
              rw [hL.out]
              show 0 < (bandE _ _ _ ++ []).length
              rw [List.append_nil, bandE_len]
              have := List.length_pos_iff.2 hcE
              omega
            obtain ⟨gl, rfl, hgl1, hgl2⟩ : ∃ g, Al = some ⟨g, 0, none⟩ ∧ w0.heap.size ≤ g ∧ g < wr.heap.size := by
              rcases ol.addr with ⟨_, _, h⟩ | h
              · rw [h] at hlen; simp at hlen
              · exact h
            go_wp2_with (at_builtin; refine wp_app_rs rfl (.tmp 192) (.tmp 193) rfl Ao co O rfl w0.heap.size oo gl Lq cl w0.heap.size rfl ol hlen (by omega) sz2 ?_; intro A5 c5 w5 own5 ap5)
            go_ret
            exact ⟨A5, c5, O ++ Lq, by simp, own_mono own5 szw, by rw [hO.out, hL.out, ← rectsL_app]; exact hmq.out, G.trans (ap5.bl G2 oo.lies (Nat.le_refl _))⟩

end Go.Proofs.YtablogiielclaaaGreat
namespace Go.Proofs.YtablogiielclaaaGreat
open Go.RowKit Go.Sort

theorem union1 (A B : Option Addr) (c d : Nat) (a b : List Rc) (X Y : List Int) (w : World) (hA : Rs w A a) (hB : Rs w B b) (ra : IsReg a) (rb : IsReg b) (hX : Grid X Y) (ia : InR X Y a) (ib : InR X Y b) :
    Calls Tryz.prog 97 #[.slice A a.length c, .slice B b.length d] w (RR w (MQ X Y a b (fun a b => a || b))) := by
  go_enter Tryz.func97, Tryz.ntmps97
  go_wp2_with fail
  refine (merge1 A B c d a b X Y _ _ w hA hB ra rb hX ia ib kcOr kpOr rfl).mono ?_
  rintro e W ⟨A1, c1, L, rfl, o1, q1, g1⟩
  go_wp2
  go_ret
  exact ⟨A1, c1, L, rfl, o1, q1, g1⟩
theorem cutR1 (A B : Option Addr) (c d : Nat) (a b : List Rc) (X Y : List Int) (w : World) (hA : Rs w A a) (hB : Rs w B b) (ra : IsReg a) (rb : IsReg b) (hX : Grid X Y) (ia : InR X Y a) (ib : InR X Y b) :
    Calls Tryz.prog 142 #[.slice A a.length c, .slice B b.length d] w (RR w (MQ X Y a b (fun a b => a && b))) := by
  go_enter Tryz.func142, Tryz.ntmps142
  go_wp2_with fail
  refine (merge1 A B c d a b X Y _ _ w hA hB ra rb hX ia ib kcAnd kpAnd rfl).mono ?_
  rintro e W ⟨A1, c1, L, rfl, o1, q1, g1⟩
  go_wp2
  go_ret
  exact ⟨A1, c1, L, rfl, o1, q1, g1⟩
/-- What Of tells of any rectangles. -/
structure OfQ (X Y : List Int) (L R : List Rc) : Prop where
  reg : IsReg R
  inr : InR X Y R
  has : ∀ x y, hasL R x y = hasL L x y
def InNe (X Y : List Int) (L : List Rc) : Prop := ∀ r ∈ L, emptyB r.a r.b r.c r.d = false → r.a ∈ X ∧ r.c ∈ X ∧ r.b ∈ Y ∧ r.d ∈ Y
theorem InR.ne {X Y : List Int} {L : List Rc} (h : InR X Y L) : InNe X Y L := fun r hr _ => h r hr
def neL (L : List Rc) : List Rc := L.filter fun r => !emptyB r.a r.b r.c r.d
theorem neL_has (L : List Rc) (x y : Int) : hasL (neL L) x y = hasL L x y := by
  induction L with
  | nil => rfl
  | cons r l ih =>
    unfold neL at *
    rw [List.filter_cons]
    by_cases he : emptyB r.a r.b r.c r.d = true
    · rw [he]
      have : hasB r.a r.b r.c r.d x y = false := by
        unfold emptyB at he; unfold hasB; simp at *; omega
      unfold hasL at *
      simp only [Bool.not_true, Bool.false_eq_true, if_false]
      rw [ih, List.any_cons, this, Bool.false_or]
    · simp only [Bool.not_eq_true] at he
      rw [he]
      unfold hasL at *
      simp only [Bool.not_false, if_true]
      rw [List.any_cons, List.any_cons, ih]
theorem one_reg {r : Rc} (h : emptyB r.a r.b r.c r.d = false) : IsReg [r] := by
  have hne : r.a < r.c ∧ r.b < r.d := by unfold emptyB at h; simp at h; omega
  refine ⟨[⟨r.b, r.d, [r.a, r.c]⟩], ⟨⟨?_, by simp⟩, by simp⟩, rfl⟩
  intro b hb
  rw [List.mem_singleton] at hb
  subst hb
  exact ⟨hne.2, by unfold Inc; simp; exact hne.1, by simp⟩
theorem neL_reg {L : List Rc} (h : L.length ≤ 1) : IsReg (neL L) := by
  match L, h with
  | [], _ => exact ⟨[], ⟨Wk.nil, by simp⟩, rfl⟩
  | [r], _ =>
    unfold neL
    rw [List.filter_cons]
    by_cases he : emptyB r.a r.b r.c r.d = true
    · rw [he]; exact ⟨[], ⟨Wk.nil, by simp⟩, rfl⟩
    · simp only [Bool.not_eq_true] at he
      rw [he]; exact one_reg he
theorem neL_ofq {X Y : List Int} {L : List Rc} (h : L.length ≤ 1) (hi : InNe X Y L) : OfQ X Y L (neL L) :=
  ⟨neL_reg h, fun r hr => hi r (List.mem_filter.1 hr).1 (by have := (List.mem_filter.1 hr).2; simpa using this), neL_has L⟩
theorem hasL_halves (L : List Rc) (h : Nat) (x y : Int) : hasL L x y = (hasL (L.take h) x y || hasL (L.drop h) x y) := by
  conv => lhs; rw [← List.take_append_drop h L]
  unfold hasL; rw [List.any_append]
theorem halves_ofq {X Y : List Int} {L R1 R2 R : List Rc} {h : Nat} (h1 : OfQ X Y (L.take h) R1) (h2 : OfQ X Y (L.drop h) R2) (m : MQ X Y R1 R2 (fun a b => a || b) R) : OfQ X Y L R :=
  ⟨m.reg, m.inr, fun x y => by rw [m.has, h1.has, h2.has, hasL_halves L h]⟩
theorem RowR.half {w : World} {b off : Nat} {L : List Rc} (hr : RowR w b off L) (h : Nat) : RowR w b off (L.take h) ∧ RowR w b (off + h * 4) (L.drop h) := by
  refine ⟨fun k r hk => hr k r ?_, fun k r hk => ?_⟩
  · rw [List.getElem?_take] at hk
    split at hk
    · exact hk
    · cases hk
  · rw [List.getElem?_drop] at hk
    have := hr (h + k) r hk
    rw [show off + (h + k) * 4 = off + h * 4 + k * 4 from by omega] at this
    exact this

theorem neL_more {L : List Rc} {k : Nat} {r : Rc} (h : L[k]? = some r) : neL (L.take (k + 1)) = if emptyB r.a r.b r.c r.d = true then neL (L.take k) else neL (L.take k) ++ [r] := by
  rw [take_more h]
  unfold neL
  rw [List.filter_append]
  by_cases he : emptyB r.a r.b r.c r.d = true
  · rw [if_pos he]; simp [he]
  · rw [if_neg he]; simp only [Bool.not_eq_true] at he; simp [he]

set_option maxHeartbeats 8000000 in
theorem of0 (A : Option Addr) (c : Nat) (L : List Rc) (X Y : List Int) (w : World) (h1 : L.length ≤ 1) (hA : Rs w A L) (hi : InNe X Y L) :
    Calls Tryz.prog 98 #[.slice A L.length c] w (RR w (OfQ X Y L)) := by
  have fin := Lib.hid (neL_ofq (X := X) (Y := Y) h1 hi)
  obtain ⟨n, hn⟩ : ∃ n, n = L.length := ⟨_, rfl⟩
  rw [← hn] at h1 ⊢
  replace hn := Lib.hid hn
  have hd : decide ((1 : Int) < (n : Int)) = false := by simp; omega
  go_enter Tryz.func98, Tryz.ntmps98
  go_wp2
  go_loopw [4, 24] (fun v i wr => ∃ (k : Nat) (A' : Option Addr) (c' : Nat) (O : List Rc), k ≤ n ∧ v = .slice A' O.length c' ∧ i = .int .i64 k ∧ Hid (O = neL (L.take k)) ∧ O.length ≤ k ∧ OwR wr w.heap.size A' c' O ∧ Bl w wr) (fun _ i _ => n - (intOf i).toNat)
  case atStart => exact ⟨0, none, 0, [], Nat.zero_le _, rfl, rfl, Lib.hid rfl, by simp, OwR.nil _ _, Bl.refl _⟩
  case round =>
    obtain ⟨k, A', c', O, hk, rfl, rfl, hO, hOl, own, G⟩ := hrel
    by_cases hlt : k < n
    · obtain ⟨⟨ra, rb, rc, rd⟩, hr⟩ := list_at (show k < L.length by rw [← hn.out]; exact hlt)
      obtain ⟨b, off, rfl, hrow⟩ := hA.opened (by have := hn.out; omega)
      obtain ⟨e1, e2, e3, e4⟩ := (hrow.bl G) k _ hr
      dsimp only at e1 e2 e3 e4
      have c1 := empty1 ra rb rc rd
      have hm := neL_more hr
      rw [← hO.out] at hm
      dsimp only at hm
      have szo := G.size
      have lb := World.block_lt_of_cell? _ _ e1
      have own1 := own.bl ((Bl.refl wr).alloc (.cells #[.int .i64 ra, .int .i64 rb, .int .i64 rc, .int .i64 rd] 31))
      have bx := At.new wr #[.int .i64 ra, .int .i64 rb, .int .i64 rc, .int .i64 rd] 31
      have G1 := G.alloc (.cells #[.int .i64 ra, .int .i64 rb, .int .i64 rc, .int .i64 rd] 31)
      clear hr
      by_cases he : emptyB ra rb rc rd = true
      · rw [if_pos he] at hm
        rw [he] at c1
        replace hm := Lib.hid hm
        clear he
        go_wp2_with fail
        refine (c1 _).mono ?_
        rintro e W1 ⟨rfl, g1⟩
        clear e1 e2 e3 e4 bx lb
        go_wp2
        go_roundw
        case rel => exact ⟨k + 1, A', c', O, by omega, rfl, by go_num, Lib.hid hm.out.symm, by omega, own1.bl g1.bl, G1.gr g1⟩
        case measure => simp [intOf]; omega
      · rw [if_neg he] at hm
        simp only [Bool.not_eq_true] at he
        rw [he] at c1
        replace hm := Lib.hid hm
        clear he
        go_wp2_with fail
        refine (c1 _).mono ?_
        rintro e W1 ⟨rfl, g1⟩
        have k0 := (bx.gr g1).cell
        have own2 := own1.bl g1.bl
        have G2 := G1.gr g1
        have sz2 := G2.size
        clear e1 e2 e3 e4 bx lb g1
        go_wp2_with (at_builtin; refine wp_app_r rfl (.tmp 31) (.tmp 33) rfl A' c' O rfl w.heap.size (own2.bl ((Bl.refl W1).alloc _)) W1.heap.size ⟨ra, rb, rc, rd⟩ 1 rfl (At.new W1 _ _) (by omega) (by simp; omega) ?_; intro A3 c3 w3 own5 ap3)
        go_roundw
        case rel => exact ⟨k + 1, A3, c3, O ++ [⟨ra, rb, rc, rd⟩], by omega, by simp, by go_num, Lib.hid hm.out.symm, by simp; omega, own5, ap3.bl (G2.alloc _) (own2.bl ((Bl.refl W1).alloc _)).lies (Nat.le_refl _)⟩
        case measure => simp [intOf]; omega
    · obtain rfl : k = n := by omega
      go_wp2
      go_ret
      exact ⟨A', c', O, rfl, own, by rw [hO.out, hn.out, List.take_length]; exact fin.out, G⟩

set_option maxHeartbeats 16000000 in
theorem of1 : ∀ (N : Nat) (A : Option Addr) (c : Nat) (L : List Rc) (X Y : List Int) (w : World), L.length ≤ N → L.length ≤ 100000000 → L.length ≤ c → c ≤ 9223372036854775807 → Rs w A L → Grid X Y → InNe X Y L →
    Calls Tryz.prog 98 #[.slice A L.length c] w (RR w (OfQ X Y L)) := by
  intro N
  induction N with
  | zero =>
    intro A c L X Y w hN _ hc hcm hA hX hi
    exact of0 A c L X Y w (by omega) hA hi
  | succ N ih =>
    intro A c L X Y w hN hl hc hcm hA hX hi
    by_cases h1 : L.length ≤ 1
    · exact of0 A c L X Y w h1 hA hi
    · obtain ⟨b, off, rfl, row⟩ := hA.opened (by omega)
      obtain ⟨n, hn⟩ : ∃ n, n = L.length := ⟨_, rfl⟩
      obtain ⟨hf, hh⟩ : ∃ hf, hf = n / 2 := ⟨_, rfl⟩
      rw [← hn] at h1 hc hl hN ⊢
      have h2 : hf ≤ n := by omega
      have h3 : hf < c := by omega
      have h4 : 1 ≤ hf ∧ hf < n := by omega
      obtain ⟨h41, h42⟩ := h4
      have q1 : (n : Int) / 2 = (hf : Int) := by omega
      have q2 : (n : Int).tdiv 2 = (hf : Int) := by rw [Int.tdiv_eq_ediv_of_nonneg (by omega)]; omega
      have q3 : IntKind.i64.wrap (hf : Int) = (hf : Int) := IntWalk.i64_in _ (by omega)
      have q4 : (hf : Int) ≤ (n : Int) := by omega
      have q5 : (hf : Int) ≤ (c : Int) := by omega
      have q6 : (n : Int) ≤ (c : Int) := by omega
      have hd : decide ((1 : Int) < (n : Int)) = true := by simp; omega
      have row1 := (row.half hf).1
      have row2 := (row.half hf).2
      have l1 : (L.take hf).length = hf := by rw [List.length_take]; omega
      have l2 : (L.drop hf).length = n - hf := by rw [List.length_drop]; omega
      have c1 := ih (some ⟨b, off, none⟩) c (L.take hf) X Y
      have c2 := ih (some ⟨b, off + hf * 4, none⟩) (c - hf) (L.drop hf) X Y
      rw [l1] at c1
      rw [l2] at c2
      replace hn := Lib.hid hn
      replace hh := Lib.hid hh
      clear l1 l2 ih
      go_enter Tryz.func98, Tryz.ntmps98
      go_wp2_with fail
      go_region_held3 (fun _ => True) (exact trivial)
        ((first
          | (go_at_call_of 98 (Value.slice (some ⟨b, off, none⟩) hf c); (refine (c1 _ (by omega) (by omega) (by omega) hcm (.inr ⟨b, off, rfl, row1.bl (by first | exact Bl.refl _ | exact (Bl.refl _).drew)⟩) hX (fun r hr => hi r (List.mem_of_mem_take hr))).mono ?_); rintro e W2 ⟨A2, c2', R1, rfl, o1, ofq1, g2⟩)
          | (go_at_call_of 98 (Value.slice (some ⟨b, off + hf * 4, none⟩) (n - hf) (c - hf)); (refine (c2 _ (by omega) (by omega) (by omega) (by omega) (.inr ⟨b, off + hf * 4, rfl, row2.bl (by first | exact Bl.refl _ | exact (Bl.refl _).drew | exact g2 | exact (Bl.refl _).drew.trans g2 | exact g2.drew)⟩) hX (fun r hr => hi r (List.mem_of_mem_drop hr))).mono ?_); rintro e W3 ⟨A3, c3', R2, rfl, o2, ofq2, g3⟩)
          | (go_at_call 97; (refine (union1 A2 A3 c2' c3' R1 R2 X Y _ (o1.rs.bl (by first | exact g3 | exact g3.drew)) (o2.rs.bl (by first | exact Bl.refl _ | exact (Bl.refl _).drew)) ofq1.reg ofq2.reg hX ofq1.inr ofq2.inr).mono ?_); rintro e W4 ⟨A4, c4', R, rfl, o3, mq, g4⟩)))
      have mqf := Lib.hid (halves_ofq (X := X) (Y := Y) ofq1 ofq2 mq)
      have GW : Bl w W4 := by first | exact (((Bl.refl w).drew.trans g2).trans g3).trans g4 | exact ((g2.trans g3).trans g4) | exact ((((Bl.refl w).drew.trans g2).drew.trans g3).drew.trans g4) | exact (((g2.drew).trans g3).drew).trans g4
      have szz : w.heap.size ≤ W3.heap.size := by have := g2.size; have := g3.size; simp at *; omega
      clear q1 q2 q3 hd c1 c2
      go_wp2
      go_ret
      exact ⟨A4, c4', R, rfl, own_mono o3 szz, mqf.out, GW⟩


end Go.Proofs.YtablogiielclaaaGreat
