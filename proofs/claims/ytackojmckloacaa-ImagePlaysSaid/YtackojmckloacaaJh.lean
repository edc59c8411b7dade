/-
  What is proved: the walk of the statement ImagePlays. No conditions but what an argument is.
-/
import Derived.Test.YtackojmckloacaaJd
namespace Go.Proofs.Ytackojmckloacaa
open Go.RowKit Go.Sort Go.Deep

theorem At.neT {w : World} {a b : Nat} {cs ds : Array Value} {t u : TypeId} (h : At w a cs t) (k : At w b ds u) (hne : t ≠ u) : a ≠ b := by
  rintro rfl
  unfold At at h k
  rw [h] at k
  injection k with k
  injection k with _ k
  exact hne k
/-- Both images of the program, and both of the document, as they lie between two steps. -/
structure StJ (w0 w : World) (rb ob pm pc po pq W H n : Nat) (L R F : List Int) (b c b2 c2 : Nat) : Prop where
  m : Img w pm pc W H L
  o : Img w po pq H W F
  r : At w rb #[.int .i64 W, .int .i64 H, .slice (some ⟨b, 0, none⟩) n c] 25
  s : At w ob #[.int .i64 H, .int .i64 W, .slice (some ⟨b2, 0, none⟩) n c2] 25
  row : RowN .u32 w b 0 R
  rs : RowN .u32 w b2 0 F
  g : Bl w0 w
  nc : w0.heap.size ≤ pc
  nr : w0.heap.size ≤ rb
  ln : R.length = n
  ln2 : F.length = n
  hn : n = W * H
  d1 : pc ≠ po
  d2 : pc ≠ pq
  d3 : b ≠ pc
  d4 : b2 ≠ pc
  d5 : b ≠ rb
  d6 : b2 ≠ rb
  d7 : rb ≠ ob
theorem StJ.bl {w0 w w' : World} {rb ob pm pc po pq W H n : Nat} {L R F : List Int} {b c b2 c2 : Nat} (h : StJ w0 w rb ob pm pc po pq W H n L R F b c b2 c2) (k : Bl w w') : StJ w0 w' rb ob pm pc po pq W H n L R F b c b2 c2 :=
  { h with m := h.m.bl k, o := h.o.bl k, r := h.r.bl k, s := h.s.bl k, row := h.row.bl k, rs := h.rs.bl k, g := h.g.trans k }
/-- The document's new image is stored. -/
theorem StJ.put {w0 w w' : World} {rb ob pm pc po pq W H n : Nat} {L R F : List Int} {b c b2 c2 : Nat} (h : StJ w0 w rb ob pm pc po pq W H n L R F b c b2 c2) (k : Bl w w') {b' c' : Nat} {R' : List Int} (hr : RowN .u32 w' b' 0 R') (hb : b' = b ∨ w.heap.size ≤ b') (hl : R'.length = R.length) :
    StJ w0 (((w'.setCell ⟨rb, 0, none⟩ (.int .i64 W)).setCell ⟨rb, 1, none⟩ (.int .i64 H)).setCell ⟨rb, 2, none⟩ (.slice (some ⟨b', 0, none⟩) n c')) rb ob pm pc po pq W H n L R' F b' c' b2 c2 := by
  have t := h.bl k
  have hrl := h.r.lt
  have hcl := h.m.cs.lt
  have n1 : pm ≠ rb := t.m.hd.neT t.r (by decide)
  have n2 : pc ≠ rb := t.m.cs.neT t.r (by decide)
  have n3 : po ≠ rb := t.o.hd.neT t.r (by decide)
  have n4 : pq ≠ rb := t.o.cs.neT t.r (by decide)
  have n5 : b' ≠ rb := by rcases hb with rfl | hb; exact h.d5; omega
  have n6 : b' ≠ pc := by rcases hb with rfl | hb; exact h.d3; omega
  exact { m := { t.m with hd := t.m.hd.far3 n1 _ _ _, cs := t.m.cs.far3 n2 _ _ _ }, o := { t.o with hd := t.o.hd.far3 n3 _ _ _, cs := t.o.cs.far3 n4 _ _ _ }, r := t.r.put3 _ _ _, s := t.s.far3 (Ne.symm h.d7) _ _ _, row := hr.far3 n5 _ _ _, rs := t.rs.far3 h.d6 _ _ _,
          g := t.g.put3 h.nr _ _ _, nc := h.nc, nr := h.nr, ln := hl.trans h.ln, ln2 := h.ln2, hn := h.hn, d1 := h.d1, d2 := h.d2, d3 := n6, d4 := h.d4, d5 := n5, d6 := h.d6, d7 := h.d7 }
/-- The program's image has been told the same. -/
theorem StJ.next {w0 w w' : World} {rb ob pm pc po pq W H n : Nat} {L L' R F : List Int} {b c b2 c2 : Nat} (h : StJ w0 w rb ob pm pc po pq W H n L R F b c b2 c2) (k : w.grownBy w' (some pc)) (hm : Img w' pm pc W H L') : StJ w0 w' rb ob pm pc po pq W H n L' R F b c b2 c2 := by
  have n1 : some rb ≠ some pc := fun e => (h.m.cs.neT h.r (by decide)) (Option.some.inj e).symm
  have n2 : some ob ≠ some pc := fun e => (h.m.cs.neT h.s (by decide)) (Option.some.inj e).symm
  exact { h with m := hm, o := h.o.kept k (fun e => h.d1 (Option.some.inj e).symm) (fun e => h.d2 (Option.some.inj e).symm), r := h.r.kept k n1, s := h.s.kept k n2, row := h.row.kept k (fun e => h.d3 (Option.some.inj e)), rs := h.rs.kept k (fun e => h.d4 (Option.some.inj e)),
                  g := h.g.grown k (fun j hj => by cases hj; exact h.nc) }

set_option maxRecDepth 100000 in
set_option maxHeartbeats 4000000 in
theorem iplays_core (x y : Int) (A1 : Option Addr) (ca : Nat) (a : List Int) (A2 : Option Addr) (cb : Nat) (bl : List Int) (Ad : Option Addr) (cd : Nat) (D : List Dd) (w : World) (hx : I64 x) (hy : I64 y) (hA : Ns .u32 w A1 a) (h32 : ∀ c ∈ a, C32 c) (hca : a.length ≤ ca) (hcm : ca ≤ maxLen)
    (hB : Ns .u32 w A2 bl) (hb32 : ∀ c ∈ bl, C32 c) (hcb : bl.length ≤ cb) (hcbm : cb ≤ maxLen) (hD : shDd.Rd w Ad D) (hDg : ∀ d ∈ D, GoodD w d) :
    Calls Try.prog 3 #[.int .i64 x, .int .i64 y, .slice A1 a.length ca, .slice A2 bl.length cb, .slice Ad D.length cd] w (fun e w' => e = .returned (.bool true) ∧ Bl w w') := by
  obtain ⟨s1, s2, hs3⟩ := side_bd x
  obtain ⟨t1, t2, ht3⟩ := side_bd y
  clear hs3 ht3
  have cg1 := mgood1 x y A1 ca a w hA h32 hca hcm hx hy
  have cg2 := fun (V : World) (g : Bl w V) => mgood1 y x A2 cb bl V (hB.bl g) hb32 hcb hcbm hy hx
  have hF1l := goodL_len (side x * side y) a
  have hF1m := goodL_may (side x * side y) a
  have hF2l := goodL_len (side y * side x) bl
  have hF2m := goodL_may (side y * side x) bl
  generalize side x = W at *
  generalize side y = H at *
  generalize goodL (W * H) a = F1 at *
  generalize goodL (H * W) bl = F2 at *
  obtain ⟨n, hn⟩ : ∃ n, n = W * H := ⟨_, rfl⟩
  have hn2 : n = H * W := hn.trans (Nat.mul_comm _ _)
  have cb1 := fun (b : Nat) (V : World) (h : RowN .u32 V b 0 F1) => build1 (c := W * H) V h hF1l s1 (by omega) t1 (by omega) hF1m
  have cb2 := fun (b : Nat) (V : World) (h : RowN .u32 V b 0 F2) => build1 (c := H * W) V h hF2l t1 (by omega) s1 (by omega) hF2m
  rw [hF1l, ← hn] at cb1
  rw [hF2l, ← hn2] at cb2
  rw [← hn] at cg1
  rw [← hn2] at cg2
  have hF1n : F1.length = n := by rw [hF1l, hn]
  have hF2n : F2.length = n := by rw [hF2l, hn2]
  have hW1 : 1 ≤ W := s1
  have hH1 : 1 ≤ H := t1
  have hW2 : W ≤ 256 := by omega
  have hH2 : H ≤ 256 := by omega
  have hbx := Lib.hid (And.intro hn (And.intro hn2 (And.intro hF1n hF2n)))
  clear hn hn2 hF1n hF2n hF1l hF2l hF1m hF2m s1 s2 t1 t2 hA hB h32 hb32 hca hcm hcb hcbm hx hy
  have clv := fun V => ilives1 V
  generalize a.length = la at *
  generalize bl.length = lb at *
  go_enter Try.func3, Try.ntmps3
  go_wp2_with fail
  refine cg1.mono ?_
  rintro e v1 ⟨b1, rfl, C1, hb1, G0⟩
  have hCl := C1.lt
  have M1 := At.new v1 #[.int .i64 W, .int .i64 H, .slice (some ⟨b1, 0, none⟩) n n] 25
  replace C1 := C1.alloc (.cells #[.int .i64 W, .int .i64 H, .slice (some ⟨b1, 0, none⟩) n n] 25)
  replace G0 := G0.alloc (.cells #[.int .i64 W, .int .i64 H, .slice (some ⟨b1, 0, none⟩) n n] 25)
  clear cg1
  go_wp2_with fail
  refine (cg2 _ G0).mono ?_
  rintro e v2 ⟨b2, rfl, C2, hb2, g2⟩
  replace M1 := M1.bl g2
  replace C1 := C1.bl g2
  replace G0 := G0.trans g2
  simp at hb2
  obtain ⟨bM, hbM⟩ : ∃ bM, bM = v1.heap.size := ⟨_, rfl⟩
  rw [← hbM] at M1 hCl hb2 ⊢
  have hwM : w.heap.size ≤ bM := by omega
  clear hbM
  have hDl := C2.lt
  have hMl := M1.lt
  have N1 := At.new v2 #[.int .i64 H, .int .i64 W, .slice (some ⟨b2, 0, none⟩) n n] 25
  replace C1 := C1.alloc (.cells #[.int .i64 H, .int .i64 W, .slice (some ⟨b2, 0, none⟩) n n] 25)
  replace C2 := C2.alloc (.cells #[.int .i64 H, .int .i64 W, .slice (some ⟨b2, 0, none⟩) n n] 25)
  replace M1 := M1.alloc (.cells #[.int .i64 H, .int .i64 W, .slice (some ⟨b2, 0, none⟩) n n] 25)
  replace G0 := G0.alloc (.cells #[.int .i64 H, .int .i64 W, .slice (some ⟨b2, 0, none⟩) n n] 25)
  clear cg2 g2
  obtain ⟨m0, m1, m2⟩ := cells3 M1
  obtain ⟨n0, n1, n2⟩ := cells3 N1
  go_wp2_with fail
  refine (cb1 _ _ C1.rowC).mono ?_
  rintro e v3 ⟨pm, pc, rfl, I1, hpm, hpc, g3⟩
  simp at hpm hpc
  replace M1 := M1.bl g3
  replace N1 := N1.bl g3
  replace C1 := C1.bl g3
  replace C2 := C2.bl g3
  replace G0 := G0.trans g3
  clear m0 m1 m2 n0 n1 n2 g3 cb1
  obtain ⟨bN, hbN⟩ : ∃ bN, bN = v2.heap.size := ⟨_, rfl⟩
  rw [← hbN] at N1 hDl hMl hpm hpc ⊢
  clear hbN
  have hpl := I1.hd.lt
  have hcl := I1.cs.lt
  obtain ⟨m0, m1, m2⟩ := cells3 M1
  obtain ⟨n0, n1, n2⟩ := cells3 N1
  go_wp2_with fail
  refine (cb2 _ _ C2.rowC).mono ?_
  rintro e v4 ⟨po, pq, rfl, I2, hpo, hpq, g4⟩
  replace M1 := M1.bl g4
  replace N1 := N1.bl g4
  replace C1 := C1.bl g4
  replace C2 := C2.bl g4
  replace I1 := I1.bl g4
  replace G0 := G0.trans g4
  clear m0 m1 m2 n0 n1 n2 g4 cb2
  have S0 : StJ w v4 bM bN pm pc po pq W H n F1 F1 F2 b1 n b2 n :=
    { m := I1, o := I2, r := M1, s := N1, row := C1.rowC, rs := C2.rowC, g := G0, nc := by omega, nr := hwM, ln := hbx.out.2.2.1, ln2 := hbx.out.2.2.2, hn := hbx.out.1,
      d1 := by omega, d2 := by omega, d3 := by omega, d4 := by omega, d5 := by omega, d6 := by omega, d7 := by omega }
  clear hb1 hb2 hCl hDl hMl hpm hpc hpl hcl hpo hpq hwM I1 I2 M1 N1 C1 C2 G0
  go_wp2_with fail
  go_loopw [15, 16, 17, 18, 19, 20, 21, 22, 23, 24, 25, 26, 27] (fun iv _ _ _ _ _ _ _ _ _ _ _ _ wr => ∃ (j : Nat) (L : List Int) (b c : Nat), j ≤ D.length ∧ iv = .int .i64 (j : Int) ∧ StJ w wr bM bN pm pc po pq W H n L L F2 b c b2 n) (fun iv _ _ _ _ _ _ _ _ _ _ _ _ _ => D.length - (intOf iv).toNat)
  case atStart => exact ⟨0, F1, b1, n, by omega, rfl, S0⟩
  case round =>
    clear S0
    obtain ⟨j, L, b, c, hj, rfl, S⟩ := hrel
    by_cases hlt : j < D.length ∧ j < 12
    · obtain ⟨hlt, hlt2⟩ := hlt
      obtain ⟨d, hd⟩ := list_at hlt
      obtain ⟨gb, off, rfl, hrow⟩ := hD.opened (by omega)
      obtain ⟨e0, e1, e2, e3, e4, e5, e6, e7, e8⟩ := dd_at (hrow.bl S.g) hd
      have hdg := hDg d (List.mem_of_getElem? hd)
      obtain ⟨gq, gns, gu8, glc, gcm⟩ := hdg
      obtain ⟨dk, dx, dy, dq, dp, dr, ds, dt, dA, dbs, dcap⟩ := d
      dsimp only at e0 e1 e2 e3 e4 e5 e6 e7 e8 gq gns gu8 glc gcm
      replace hd := Lib.hid hd
      have bx := At.new wr #[.int .i64 dk, .int .i64 dx, .int .i64 dy, .int .u32 dq, .int .i64 dp, .int .i64 dr, .int .i64 ds, .int .i64 dt, .slice dA dbs.length dcap] 35
      have SX := S.bl ((Bl.refl wr).alloc (.cells #[.int .i64 dk, .int .i64 dx, .int .i64 dy, .int .u32 dq, .int .i64 dp, .int .i64 dr, .int .i64 ds, .int .i64 dt, .slice dA dbs.length dcap] 35))
      have gnsX := gns.bl SX.g
      obtain ⟨nb, hnb⟩ : ∃ nb, nb = dbs.length := ⟨_, rfl⟩
      rw [← hnb] at e8 bx SX gnsX
      replace gnsX := Lib.hid gnsX
      replace gu8 := Lib.hid gu8
      replace glc := Lib.hid glc
      replace gcm := Lib.hid gcm
      replace hnb := Lib.hid hnb
      replace hrow := Lib.hid hrow
      replace gns := Lib.hid gns
      clear S
      have r0 := SX.r.cell 0
      have r1 := SX.r.cell 1
      have r2 := SX.r.cell 2
      have s0 := SX.s.cell 0
      have s1 := SX.s.cell 1
      have s2 := SX.s.cell 2
      have hk : dk = 0 ∨ dk = 1 ∨ dk = 2 ∨ dk = 3 ∨ (dk ≠ 0 ∧ dk ≠ 1 ∧ dk ≠ 2 ∧ dk ≠ 3) := by omega
      rcases hk with rfl | rfl | rfl | rfl | hk
      · obtain ⟨L', hL'⟩ : ∃ L', L' = stL W H L dx dy dq := ⟨_, rfl⟩
        obtain ⟨v', hv'⟩ : ∃ v', v' = stE W H dx dy dq := ⟨_, rfl⟩
        have cR := rsetS (c := c) _ SX.row (SX.ln.trans SX.hn) hW1 hW2 hH2 dx dy dq gq
        rw [← hL', ← hv'] at cR
        rw [SX.ln] at cR
        have hlen : L'.length = L.length := by rw [hL']; exact stL_len _ _ _ _ _ _
        replace cR := Lib.hid cR
        go_wp2_with fail
        refine cR.out.mono ?_
        rintro e w3 ⟨b', c', rfl, row3, hb', k3⟩
        have k4 := k3.alloc (.cells #[.int .i64 W, .int .i64 H, .slice (some ⟨b', 0, none⟩) n c'] 25)
        have row4 := row3.bl ((Bl.refl w3).alloc (.cells #[.int .i64 W, .int .i64 H, .slice (some ⟨b', 0, none⟩) n c'] 25))
        have S4 := SX.put (c' := c') k4 row4 hb' hlen
        have rr := SX.r.bl k4
        obtain ⟨rr0, rr1, rr2⟩ := cells3 rr
        obtain ⟨rf0, rf1, rf2, _⟩ := free4 rr
        have b3 := bx.bl k4
        have hne : wr.heap.size ≠ bM := b3.neT rr (by decide)
        have b6 := b3.far3 hne (.int .i64 W) (.int .i64 H) (.slice (some ⟨b', 0, none⟩) n c')
        have q1 := b6.cell 1
        have q2 := b6.cell 2
        have q3 := b6.cell 3
        have cP := psetS _ S4.m dx dy dq gq
        rw [← hL', ← hv'] at cP
        replace hL' := Lib.hid hL'
        replace hv' := Lib.hid hv'
        replace hlen := Lib.hid hlen
        replace cP := Lib.hid cP
        clear r0 r1 r2 s0 s1 s2 cR rr k4 row4 row3 k3 b3 b6 bx SX
        go_wp2_with fail
        refine cP.out.mono ?_
        rintro e w5 ⟨rfl, k5, I5⟩
        have S5 := S4.next k5 I5
        clear S4 k5 I5 cP rr0 rr1 rr2 rf0 rf1 rf2 q1 q2 q3
        have r0 := S5.r.cell 0
        have r1 := S5.r.cell 1
        have r2 := S5.r.cell 2
        have ck := like1 (c := c') _ S5.m S5.row
        rw [S5.ln] at ck
        go_wp2_with fail
        refine ck.mono ?_
        rintro e w6 ⟨rfl, g6⟩
        go_wp2
        go_roundw
        case rel => exact ⟨j + 1, L', b', c', by omega, by go_num, S5.bl g6.bl⟩
        case measure => simp [intOf]; omega
      · obtain ⟨L', hL'⟩ : ∃ L', L' = flL W L dp dr ds dt dq := ⟨_, rfl⟩
        obtain ⟨v', hv'⟩ : ∃ v', v' = flN W H dp dr ds dt dq := ⟨_, rfl⟩
        have cR := rfillS (c := c) _ SX.row (SX.ln.trans SX.hn) hW1 hW2 hH1 hH2 dp dr ds dt dq gq
        rw [← hL', ← hv'] at cR
        rw [SX.ln] at cR
        have hlen : L'.length = L.length := by rw [hL']; exact flL_len _ _ _ _ _ _ _
        replace cR := Lib.hid cR
        go_wp2_with fail
        refine cR.out.mono ?_
        rintro e w3 ⟨b', c', rfl, row3, hb', k3⟩
        have k4 := k3.alloc (.cells #[.int .i64 W, .int .i64 H, .slice (some ⟨b', 0, none⟩) n c'] 25)
        have row4 := row3.bl ((Bl.refl w3).alloc (.cells #[.int .i64 W, .int .i64 H, .slice (some ⟨b', 0, none⟩) n c'] 25))
        have S4 := SX.put (c' := c') k4 row4 hb' hlen
        have rr := SX.r.bl k4
        obtain ⟨rr0, rr1, rr2⟩ := cells3 rr
        obtain ⟨rf0, rf1, rf2, _⟩ := free4 rr
        have b3 := bx.bl k4
        have hne : wr.heap.size ≠ bM := b3.neT rr (by decide)
        have b6 := b3.far3 hne (.int .i64 W) (.int .i64 H) (.slice (some ⟨b', 0, none⟩) n c')
        have q3 := b6.cell 3
        have q4 := b6.cell 4
        have q5 := b6.cell 5
        have q6 := b6.cell 6
        have q7 := b6.cell 7
        have cP := pfillS _ S4.m dp dr ds dt dq gq
        rw [← hL', ← hv'] at cP
        replace hL' := Lib.hid hL'
        replace hv' := Lib.hid hv'
        replace hlen := Lib.hid hlen
        replace cP := Lib.hid cP
        clear r0 r1 r2 s0 s1 s2 cR rr k4 row4 row3 k3 b3 b6 bx SX
        go_wp2_with fail
        refine cP.out.mono ?_
        rintro e w5 ⟨rfl, k5, I5⟩
        have S5 := S4.next k5 I5
        clear S4 k5 I5 cP rr0 rr1 rr2 rf0 rf1 rf2 q3 q4 q5 q6 q7
        have r0 := S5.r.cell 0
        have r1 := S5.r.cell 1
        have r2 := S5.r.cell 2
        have ck := like1 (c := c') _ S5.m S5.row
        rw [S5.ln] at ck
        go_wp2_with fail
        refine ck.mono ?_
        rintro e w6 ⟨rfl, g6⟩
        go_wp2
        go_roundw
        case rel => exact ⟨j + 1, L', b', c', by omega, by go_num, S5.bl g6.bl⟩
        case measure => simp [intOf]; omega
      · obtain ⟨L', hL'⟩ : ∃ L', L' = cpL W W H dp dr ds dt dx dy L L := ⟨_, rfl⟩
        obtain ⟨v', hv'⟩ : ∃ v', v' = cpN W H W H dp dr ds dt dx dy := ⟨_, rfl⟩
        have cR := rcopyS (c := c) (c2 := c) _ SX.row SX.row (SX.ln.trans SX.hn) (SX.ln.trans SX.hn) hW1 hW2 hH1 hH2 hW2 hH2 dp dr ds dt dx dy
        rw [← hL', ← hv'] at cR
        rw [SX.ln] at cR
        have hlen : L'.length = L.length := by rw [hL']; exact cpL_len _ _ _ _ _ _ _ _ _ _ _
        replace cR := Lib.hid cR
        go_wp2_with fail
        refine cR.out.mono ?_
        rintro e w3 ⟨b', c', rfl, row3, hb', k3⟩
        have k4 := k3.alloc (.cells #[.int .i64 W, .int .i64 H, .slice (some ⟨b', 0, none⟩) n c'] 25)
        have row4 := row3.bl ((Bl.refl w3).alloc (.cells #[.int .i64 W, .int .i64 H, .slice (some ⟨b', 0, none⟩) n c'] 25))
        have S4 := SX.put (c' := c') k4 row4 hb' hlen
        have rr := SX.r.bl k4
        obtain ⟨rr0, rr1, rr2⟩ := cells3 rr
        obtain ⟨rf0, rf1, rf2, _⟩ := free4 rr
        have b3 := bx.bl k4
        have hne : wr.heap.size ≠ bM := b3.neT rr (by decide)
        have b6 := b3.far3 hne (.int .i64 W) (.int .i64 H) (.slice (some ⟨b', 0, none⟩) n c')
        have q1 := b6.cell 1
        have q2 := b6.cell 2
        have q4 := b6.cell 4
        have q5 := b6.cell 5
        have q6 := b6.cell 6
        have q7 := b6.cell 7
        have cP := copySelf _ S4.m dp dr ds dt dx dy
        rw [← hL', ← hv'] at cP
        replace hL' := Lib.hid hL'
        replace hv' := Lib.hid hv'
        replace hlen := Lib.hid hlen
        replace cP := Lib.hid cP
        clear r0 r1 r2 s0 s1 s2 cR rr k4 row4 row3 k3 b3 b6 bx SX
        go_wp2_with fail
        refine cP.out.mono ?_
        rintro e w5 ⟨rfl, k5, I5⟩
        have S5 := S4.next k5 I5
        clear S4 k5 I5 cP rr0 rr1 rr2 rf0 rf1 rf2 q1 q2 q4 q5 q6 q7
        have r0 := S5.r.cell 0
        have r1 := S5.r.cell 1
        have r2 := S5.r.cell 2
        have ck := like1 (c := c') _ S5.m S5.row
        rw [S5.ln] at ck
        go_wp2_with fail
        refine ck.mono ?_
        rintro e w6 ⟨rfl, g6⟩
        go_wp2
        go_roundw
        case rel => exact ⟨j + 1, L', b', c', by omega, by go_num, S5.bl g6.bl⟩
        case measure => simp [intOf]; omega
      · obtain ⟨L', hL'⟩ : ∃ L', L' = cpL W H W dp dr ds dt dx dy L F2 := ⟨_, rfl⟩
        obtain ⟨v', hv'⟩ : ∃ v', v' = cpN W H H W dp dr ds dt dx dy := ⟨_, rfl⟩
        have cR := rcopyS (c := c) (c2 := n) _ SX.row SX.rs (SX.ln.trans SX.hn) (SX.ln2.trans hbx.out.2.1) hW1 hW2 hH1 hH2 hH2 hW2 dp dr ds dt dx dy
        rw [← hL', ← hv'] at cR
        rw [SX.ln] at cR
        rw [SX.ln2] at cR
        have hlen : L'.length = L.length := by rw [hL']; exact cpL_len _ _ _ _ _ _ _ _ _ _ _
        replace cR := Lib.hid cR
        go_wp2_with fail
        refine cR.out.mono ?_
        rintro e w3 ⟨b', c', rfl, row3, hb', k3⟩
        have k4 := k3.alloc (.cells #[.int .i64 W, .int .i64 H, .slice (some ⟨b', 0, none⟩) n c'] 25)
        have row4 := row3.bl ((Bl.refl w3).alloc (.cells #[.int .i64 W, .int .i64 H, .slice (some ⟨b', 0, none⟩) n c'] 25))
        have S4 := SX.put (c' := c') k4 row4 hb' hlen
        have rr := SX.r.bl k4
        obtain ⟨rr0, rr1, rr2⟩ := cells3 rr
        obtain ⟨rf0, rf1, rf2, _⟩ := free4 rr
        have b3 := bx.bl k4
        have hne : wr.heap.size ≠ bM := b3.neT rr (by decide)
        have b6 := b3.far3 hne (.int .i64 W) (.int .i64 H) (.slice (some ⟨b', 0, none⟩) n c')
        have q1 := b6.cell 1
        have q2 := b6.cell 2
        have q4 := b6.cell 4
        have q5 := b6.cell 5
        have q6 := b6.cell 6
        have q7 := b6.cell 7
        have cP := copyOther _ S4.m S4.o ⟨S4.d1, S4.d2⟩ dp dr ds dt dx dy
        rw [← hL', ← hv'] at cP
        replace hL' := Lib.hid hL'
        replace hv' := Lib.hid hv'
        replace hlen := Lib.hid hlen
        replace cP := Lib.hid cP
        clear r0 r1 r2 s0 s1 s2 cR rr k4 row4 row3 k3 b3 b6 bx SX
        go_wp2_with fail
        refine cP.out.mono ?_
        rintro e w5 ⟨rfl, k5, I5⟩
        have S5 := S4.next k5 I5
        clear S4 k5 I5 cP rr0 rr1 rr2 rf0 rf1 rf2 q1 q2 q4 q5 q6 q7
        have r0 := S5.r.cell 0
        have r1 := S5.r.cell 1
        have r2 := S5.r.cell 2
        have ck := like1 (c := c') _ S5.m S5.row
        rw [S5.ln] at ck
        go_wp2_with fail
        refine ck.mono ?_
        rintro e w6 ⟨rfl, g6⟩
        go_wp2
        go_roundw
        case rel => exact ⟨j + 1, L', b', c', by omega, by go_num, S5.bl g6.bl⟩
        case measure => simp [intOf]; omega
      · obtain ⟨k0, k1, k2, k3⟩ := hk
        obtain ⟨L', hL'⟩ : ∃ L', L' = wtL W H L dp dr ds dt dbs := ⟨_, rfl⟩
        obtain ⟨v', hv'⟩ : ∃ v', v' = wtE W H dp dr ds dt dbs := ⟨_, rfl⟩
        have cR := rwriteS (c := c) _ SX.row (SX.ln.trans SX.hn) hW1 hW2 hH2 dp dr ds dt dA dbs dcap gnsX.out gu8.out
        rw [← hL', ← hv'] at cR
        rw [SX.ln] at cR
        rw [← hnb.out] at cR
        have hlen : L'.length = L.length := by rw [hL']; exact wtL_len _ _ _ _ _ _ _ _
        replace cR := Lib.hid cR
        go_wp2_with fail
        refine cR.out.mono ?_
        rintro e w3 ⟨b', c', rfl, row3, hb', k3⟩
        have k4 := k3.alloc (.cells #[.int .i64 W, .int .i64 H, .slice (some ⟨b', 0, none⟩) n c'] 25)
        have row4 := row3.bl ((Bl.refl w3).alloc (.cells #[.int .i64 W, .int .i64 H, .slice (some ⟨b', 0, none⟩) n c'] 25))
        have S4 := SX.put (c' := c') k4 row4 hb' hlen
        have rr := SX.r.bl k4
        obtain ⟨rr0, rr1, rr2⟩ := cells3 rr
        obtain ⟨rf0, rf1, rf2, _⟩ := free4 rr
        have b3 := bx.bl k4
        have hne : wr.heap.size ≠ bM := b3.neT rr (by decide)
        have b6 := b3.far3 hne (.int .i64 W) (.int .i64 H) (.slice (some ⟨b', 0, none⟩) n c')
        have q4 := b6.cell 4
        have q5 := b6.cell 5
        have q6 := b6.cell 6
        have q7 := b6.cell 7
        have q8 := b6.cell 8
        have cP := pwriteS _ S4.m dp dr ds dt dA dbs dcap (gns.out.bl S4.g) gu8.out glc.out gcm.out
        rw [← hL', ← hv'] at cP
        rw [← hnb.out] at cP
        replace hL' := Lib.hid hL'
        replace hv' := Lib.hid hv'
        replace hlen := Lib.hid hlen
        replace cP := Lib.hid cP
        clear r0 r1 r2 s0 s1 s2 cR rr k4 row4 row3 k3 b3 b6 bx SX
        go_wp2_with fail
        refine cP.out.mono ?_
        rintro e w5 ⟨rfl, k5, I5⟩
        have S5 := S4.next k5 I5
        clear S4 k5 I5 cP rr0 rr1 rr2 rf0 rf1 rf2 q4 q5 q6 q7 q8
        have r0 := S5.r.cell 0
        have r1 := S5.r.cell 1
        have r2 := S5.r.cell 2
        have ck := like1 (c := c') _ S5.m S5.row
        rw [S5.ln] at ck
        go_wp2_with fail
        refine ck.mono ?_
        rintro e w6 ⟨rfl, g6⟩
        go_wp2
        go_roundw
        case rel => exact ⟨j + 1, L', b', c', by omega, by go_num, S5.bl g6.bl⟩
        case measure => simp [intOf]; omega
    · have hbd : (decide ((j : Int) < (D.length : Int)) = false ∧ ¬ (j : Int) < (D.length : Int)) ∨ (decide ((j : Int) < (D.length : Int)) = true ∧ decide ((j : Int) < 12) = false ∧ j < D.length) := by
        rcases (show j = D.length ∨ (j < D.length ∧ 12 ≤ j) by omega) with h | h
        · exact .inl ⟨by simp; omega, by omega⟩
        · exact .inr ⟨by simp; omega, by simp; omega, h.1⟩
      clear hlt
      have g := S.g
      have s0 := S.s.cell 0
      have s1 := S.s.cell 1
      have s2 := S.s.cell 2
      have ck := like1 (c := n) _ S.o S.rs
      rw [S.ln2] at ck
      replace hj := Lib.hid hj
      rcases hbd with ⟨h, h'⟩ | ⟨h, h', h''⟩
      all_goals
        go_wp2_with fail
        refine ck.mono ?_
        rintro e w2 ⟨rfl, g2⟩
        go_wp2_with fail
        refine (clv _).mono ?_
        rintro e w3 ⟨rfl, k3⟩
        go_wp2
        go_ret
        exact ⟨rfl, (g.gr g2).trans k3⟩

end Go.Proofs.Ytackojmckloacaa
