/-
  What is proved: the statement ImageCopies: what is copied there is told there, all else stays. No conditions.
-/
import Derived.Test.YtlbpeogjedjpnaaIw
import Derived.Test.YtlbpeogjedjpnaaIk
import Derived.Test.YtlbpeogjedjpnaaId
namespace Go.Proofs.Ytlbpeogjedjpnaa
open Go.ChangeShapes Go.WideShapes Go.ChangeAt Go.RowKit Go.Joins Go.Sort

/-- What of a rectangle of one image goes into another one. -/
theorem cut_shift (a0 b0 a1 b1 W H W2 H2 : Nat) (dx dy : Int) (ha : a0 ≤ a1) (hb : b0 ≤ b1) (hw : a1 ≤ W2) (hh : b1 ≤ H2) (_hab : b0 < b1 → a0 < a1) (W1 : 1 ≤ W) (H1 : 1 ≤ H) :
    ∃ x0 y0 x1 y1 u0 v0 : Nat, cutR a0 b0 a1 b1 (-dx) (-dy) (W - dx) (H - dy) = ⟨x0, y0, x1, y1⟩ ∧ x0 ≤ x1 ∧ (y0 < y1 → x0 < x1) ∧ y0 ≤ y1 ∧ x1 ≤ W2 ∧ y1 ≤ H2 ∧
      (y0 < y1 → (u0 : Int) = x0 + dx ∧ (v0 : Int) = y0 + dy ∧ u0 + (x1 - x0) ≤ W ∧ v0 + (y1 - y0) ≤ H) ∧
      ∀ p q : Nat, p < W → q < H → ((a0 : Int) ≤ p - dx ∧ (p : Int) - dx < a1 ∧ (b0 : Int) ≤ q - dy ∧ (q : Int) - dy < b1 ↔ y0 < y1 ∧ u0 ≤ p ∧ p < u0 + (x1 - x0) ∧ v0 ≤ q ∧ q < v0 + (y1 - y0)) := by
  by_cases e : emptyB (max a0 (-dx)) (max b0 (-dy)) (min a1 (W - dx)) (min b1 (H - dy)) = true
  · refine ⟨0, 0, 0, 0, 0, 0, by unfold cutR; rw [if_pos e]; rfl, by omega, by omega, by omega, by omega, by omega, by omega, fun p q hp hq => ?_⟩
    simp [emptyB] at e
    omega
  · have e' := e
    simp [emptyB] at e'
    refine ⟨(max (a0 : Int) (-dx)).toNat, (max (b0 : Int) (-dy)).toNat, (min (a1 : Int) (W - dx)).toNat, (min (b1 : Int) (H - dy)).toNat, (max (a0 : Int) (-dx) + dx).toNat, (max (b0 : Int) (-dy) + dy).toNat, ?_, by omega, by omega, by omega, by omega, by omega, by omega, fun p q hp hq => by omega⟩
    unfold cutR; rw [if_neg e]
    rw [show (((max (a0 : Int) (-dx)).toNat : Nat) : Int) = max (a0 : Int) (-dx) by omega, show (((max (b0 : Int) (-dy)).toNat : Nat) : Int) = max (b0 : Int) (-dy) by omega, show (((min (a1 : Int) (W - dx)).toNat : Nat) : Int) = min (a1 : Int) (W - dx) by omega, show (((min (b1 : Int) (H - dy)).toNat : Nat) : Int) = min (b1 : Int) (H - dy) by omega]

/-- What an image of copied rows has at a point. -/
theorem cp_point {W H W2 x0 y0 x1 y1 u0 v0 : Nat} {L L2 : List Int} {dx dy : Int} {ts : List Nat} (hl : L.length = W * H) (w1 : 1 ≤ W) (hx : y0 < y1 → x0 < x1) (_hw : x1 ≤ W2) (hL2 : ∀ y, y < y1 → y * W2 + x1 ≤ L2.length)
    (hu : y0 < y1 → (u0 : Int) = x0 + dx ∧ (v0 : Int) = y0 + dy ∧ u0 + (x1 - x0) ≤ W) (hts : ∀ t, t ∈ ts ↔ t < y1 - y0) {k : Nat} (hk : k < W * H) :
    (cpAll W W2 u0 v0 x0 y0 (x1 - x0) L2 L ts)[k]? = if y0 < y1 ∧ u0 ≤ k % W ∧ k % W < u0 + (x1 - x0) ∧ v0 ≤ k / W ∧ k / W < v0 + (y1 - y0) then L2[((k / W : Nat) - dy).toNat * W2 + ((k % W : Nat) - dx).toNat]? else L[k]? := by
  by_cases hy : y0 < y1
  · obtain ⟨h1, h2, h3⟩ := hu hy
    have hxx := hx hy
    rw [cpAll_get (h := y1 - y0) w1 h3 (fun t ht => by have := hL2 (y0 + t) (by omega); omega) ts L k (fun t ht => (hts t).1 ht)]
    by_cases c : u0 ≤ k % W ∧ k % W < u0 + (x1 - x0) ∧ v0 ≤ k / W ∧ k / W < v0 + (y1 - y0)
    · rw [if_pos ⟨by omega, c.1, c.2.1, c.2.2.1, (hts _).2 (by omega)⟩, if_pos ⟨hy, c⟩]
      rw [show y0 + (k / W - v0) = ((k / W : Nat) - dy).toNat by omega, Nat.add_assoc, show x0 + (k % W - u0) = ((k % W : Nat) - dx).toNat by omega]
    · rw [if_neg (fun q => c ⟨q.2.1, q.2.2.1, q.2.2.2.1, by have := (hts _).1 q.2.2.2.2; omega⟩), if_neg (fun q => c q.2)]
  · rw [if_neg (fun q => hy q.1)]
    have : ts = [] := by
      cases ts with
      | nil => rfl
      | cons t ts => have := (hts t).1 List.mem_cons_self; omega
    subst this; rfl

theorem lt16 {i W : Nat} (h : i < W) (k : W ≤ 16) : (i : Int) < 16 := by omega
theorem d12 {a d : Int} (h : a - 12 = d) (h1 : 0 ≤ a) (h2 : a < 25) : -12 ≤ d ∧ d ≤ 12 := by omega
theorem row_in {W H x1 y1 : Nat} {L2 : List Int} (hl : L2.length = H * W) (hx : x1 ≤ H) (hy : y1 ≤ W) : ∀ y, y < y1 → y * H + x1 ≤ L2.length := by
  intro q hq
  have h := Nat.mul_le_mul_right H (show q + 1 ≤ W by omega)
  rw [Nat.add_mul, Nat.mul_comm W H] at h
  rw [hl]; omega
/-- What the law finds at a point. -/
theorem cp_cases {W H i j a0 b0 a1 b1 x0 x1 y0 y1 u0 v0 : Nat} {sa sb sc sd dx dy cl1 : Int} {F2 : List Int} {X : Option Int} (hl : F2.length = H * W) (ha : a1 ≤ H) (hb : b1 ≤ W) (hi : i < W) (hj : j < H)
    (h1 : ∀ p q : Nat, p < H → q < W → hasB sa sb sc sd p q = decide (a0 ≤ p ∧ p < a1 ∧ b0 ≤ q ∧ q < b1))
    (h2 : ∀ p q : Nat, p < W → q < H → ((a0 : Int) ≤ p - dx ∧ (p : Int) - dx < a1 ∧ (b0 : Int) ≤ q - dy ∧ (q : Int) - dy < b1 ↔ y0 < y1 ∧ u0 ≤ p ∧ p < u0 + (x1 - x0) ∧ v0 ≤ q ∧ q < v0 + (y1 - y0)))
    (hX : X = if y0 < y1 ∧ u0 ≤ i ∧ i < u0 + (x1 - x0) ∧ v0 ≤ j ∧ j < v0 + (y1 - y0) then F2[((j : Int) - dy).toNat * H + ((i : Int) - dx).toNat]? else some cl1) :
    (hasB 0 0 H W ((i : Int) - dx) ((j : Int) - dy) = false ∧ X = some cl1) ∨ ∃ (p q : Nat) (cl2 : Int), p < H ∧ q < W ∧ (i : Int) - dx = p ∧ (j : Int) - dy = q ∧ F2[q * H + p]? = some cl2 ∧
      ((hasB sa sb sc sd ((i : Int) - dx) ((j : Int) - dy) = true ∧ X = some cl2) ∨ (hasB sa sb sc sd ((i : Int) - dx) ((j : Int) - dy) = false ∧ X = some cl1)) := by
  have h2' := h2 i j hi hj
  simp only [← h2'] at hX
  clear h2 h2'
  generalize hpx : (i : Int) - dx = px at *
  generalize hqy : (j : Int) - dy = qy at *
  by_cases hh : hasB 0 0 H W px qy = true
  · right
    simp [hasB] at hh
    refine ⟨px.toNat, qy.toNat, ?_⟩
    have hp : px.toNat < H := by omega
    have hq : qy.toNat < W := by omega
    obtain ⟨cl2, hc⟩ := list_at (l := F2) (k := qy.toNat * H + px.toNat) (by rw [hl]; exact row_of hp hq)
    refine ⟨cl2, hp, hq, by omega, by omega, hc, ?_⟩
    have := h1 px.toNat qy.toNat hp hq
    rw [show ((px.toNat : Nat) : Int) = px by omega, show ((qy.toNat : Nat) : Int) = qy by omega] at this
    rw [this, hX]
    by_cases c : a0 ≤ px.toNat ∧ px.toNat < a1 ∧ b0 ≤ qy.toNat ∧ qy.toNat < b1
    · left; rw [if_pos (by omega)]; exact ⟨by simpa using c, hc⟩
    · right; rw [if_neg (by omega)]; exact ⟨by simpa using c, rfl⟩
  · left
    refine ⟨by simpa using hh, ?_⟩
    simp [hasB] at hh
    rw [hX, if_neg]
    intro c; omega

set_option maxRecDepth 100000 in
set_option maxHeartbeats 4000000 in
theorem icopies_walk (x y : Int) (A1 : Option Addr) (ca : Nat) (a : List Int) (A2 : Option Addr) (cb : Nat) (bl : List Int) (ra rb rc rd dxr dyr at_ : Int) (w : World) (hx : I64 x) (hy : I64 y) (hA : Ns .u32 w A1 a) (h32 : ∀ c ∈ a, C32 c) (hca : a.length ≤ ca) (hcm : ca ≤ maxLen)
    (hB : Ns .u32 w A2 bl) (hb32 : ∀ c ∈ bl, C32 c) (hcb : bl.length ≤ cb) (hcbm : cb ≤ maxLen) (h1 : I64 ra) (h2 : I64 rb) (h3 : I64 rc) (h4 : I64 rd) (hdx : I64 dxr) (hdy : I64 dyr) (hat : I64 at_) :
    Calls Try.prog 8 #[.int .i64 x, .int .i64 y, .slice A1 a.length ca, .slice A2 bl.length cb, .agg #[.int .i64 ra, .int .i64 rb, .int .i64 rc, .int .i64 rd], .int .i64 dxr, .int .i64 dyr, .int .i64 at_] w (fun e w' => e = .returned (.bool true) ∧ Bl w w') := by
  obtain ⟨s1, s2, hs3⟩ := side_bd x
  obtain ⟨t1, t2, ht3⟩ := side_bd y
  clear hs3 ht3
  have G0 := (Gr.refl w).alloc (.cells #[.int .i64 ra, .int .i64 rb, .int .i64 rc, .int .i64 rd] 32)
  have E0 := At.new w #[.int .i64 ra, .int .i64 rb, .int .i64 rc, .int .i64 rd] 32
  have cg1 := mgood1 x y A1 ca a _ (hA.bl G0.bl) h32 hca hcm hx hy
  have cg2 := fun (V : World) (g : Bl w V) => mgood1 y x A2 cb bl V (hB.bl g) hb32 hcb hcbm hy hx
  have hF1l := goodL_len (side x * side y) a
  have hF1m := goodL_may (side x * side y) a
  have hF2l := goodL_len (side y * side x) bl
  have hF2m := goodL_may (side y * side x) bl
  generalize side x = W at *
  generalize side y = H at *
  generalize goodL (W * H) a = F1 at *
  generalize goodL (H * W) bl = F2 at *
  have hWH := Nat.mul_le_mul s2 t2
  have hnpos := Nat.mul_pos s1 t1
  obtain ⟨n, hn⟩ : ∃ n, n = W * H := ⟨_, rfl⟩
  have hn2 : n = H * W := hn.trans (Nat.mul_comm _ _)
  have cat := fun w => around1 at_ n w hat (by omega)
  obtain ⟨k1, k2⟩ := around_bd at_ n (by omega)
  obtain ⟨k, hke⟩ : ∃ k : Nat, around at_ n = (k : Int) := ⟨(around at_ n).toNat, by omega⟩
  rw [hke] at cat k1 k2
  have hkn : k < n := by omega
  have hk9 : k ≤ 1000000000 := by omega
  have hkW : k < W * H := hn ▸ hkn
  obtain ⟨d1, d2, d3⟩ := div_of (k := k) (H := H) s1 hkW
  obtain ⟨i, j, hi, hj, e1, e2, e3, e4, e5, e6, e7, e8⟩ := rem_quo k W s1 hk9
  have hiW : i < W := by rw [hi]; exact d1
  have hjH : j < H := by rw [hj]; exact d2
  have hk3 : j * W + i = k := by rw [hi, hj]; exact d3
  have hF1n : F1.length = n := by rw [hF1l, hn]
  have hF2n : F2.length = n := by rw [hF2l, hn2]
  obtain ⟨cl1, hcl1⟩ := list_at (l := F1) (k := k) (hF1n ▸ hkn)
  have csm := fun w => small1 ra rb rc rd w h1 h2 h3 h4
  generalize smallR ra rb rc rd = sm at *
  obtain ⟨sa, sb, sc, sd⟩ := sm
  dsimp only at csm
  obtain ⟨a0, b0, a1, b1, hc1, ha, hab, haw, hbb, hbh, hpt1⟩ := cut_nat sa sb sc sd H W
  have cdx := fun w => around1 dxr 25 w hdx (by omega)
  have cdy := fun w => around1 dyr 25 w hdy (by omega)
  obtain ⟨dx1, dx2⟩ := around_bd dxr 25 (by omega)
  obtain ⟨dy1, dy2⟩ := around_bd dyr 25 (by omega)
  generalize around dxr 25 = dxa at *
  generalize around dyr 25 = dya at *
  obtain ⟨dx, hdxe⟩ : ∃ dx, dxa - 12 = dx := ⟨_, rfl⟩
  obtain ⟨dy, hdye⟩ : ∃ dy, dya - 12 = dy := ⟨_, rfl⟩
  have di1 : (i : Int) < 16 := lt16 hiW s2
  have di2 : (j : Int) < 16 := lt16 hjH t2
  obtain ⟨dj1, dj2⟩ := d12 hdxe dx1 dx2
  obtain ⟨dk1, dk2⟩ := d12 hdye dy1 dy2
  obtain ⟨x0, y0, x1, y1, u0, v0, hc2, hx0, hxx, hyy, hxw, hyh, hu, hpt2⟩ := cut_shift a0 b0 a1 b1 W H H W dx dy ha hbb haw hbh hab s1 t1
  have hxx' := Lib.hid hxx
  have hu' := Lib.hid hu
  clear hxx hu hab
  have ccp := fun (pm pc pm2 pc2 : Nat) (V : World) (hI : Img V pm pc W H F1) (hJ : Img V pm2 pc2 H W F2) (hne : pc ≠ pm2 ∧ pc ≠ pc2) => copyO1 V hI hJ hne sa sb sc sd dx dy (by omega) (by omega) x0 y0 x1 y1 u0 v0 _ hc1 hc2 hx0 hxx'.out hyy hxw hyh hu'.out
  have hpnt : ∀ ts : List Nat, (∀ t, t ∈ ts ↔ t < y1 - y0) → (cpAll W H u0 v0 x0 y0 (x1 - x0) F2 F1 ts)[j * W + i]? = if y0 < y1 ∧ u0 ≤ i ∧ i < u0 + (x1 - x0) ∧ v0 ≤ j ∧ j < v0 + (y1 - y0) then F2[((j : Int) - dy).toNat * H + ((i : Int) - dx).toNat]? else some cl1 := by
    intro ts hts
    rw [hk3, ← hcl1, hi, hj]
    exact cp_point hF1l s1 hxx'.out hxw (row_in hF2l hxw hyh) (fun h => ⟨(hu'.out h).1, (hu'.out h).2.1, (hu'.out h).2.2.1⟩) hts hkW
  have cb1 := fun (b : Nat) (V : World) (h : RowN .u32 V b 0 F1) => build1 (c := W * H) V h hF1l s1 (by omega) t1 (by omega) hF1m
  have cb2 := fun (b : Nat) (V : World) (h : RowN .u32 V b 0 F2) => build1 (c := H * W) V h hF2l t1 (by omega) s1 (by omega) hF2m
  have cA0 := fun (b : Nat) (V : World) (p q : Int) (h : hasB 0 0 H W p q = false) => refAt0 (W := H) (H := W) (c := n) (n := n) (A := some ⟨b, 0, none⟩) V p q h
  have cA1 := fun (b : Nat) (V : World) (h : RowN .u32 V b 0 F2) (p q : Nat) (hp : p < H) (hq : q < W) (c : Int) (hc : F2[q * H + p]? = some c) => refAt1 (c := n) V h hF2l (by omega) (by omega) p q hp hq c hc
  rw [hF1l, ← hn] at cb1
  rw [hF2l, ← hn2] at cb2
  rw [← hn] at cg1
  rw [← hn2] at cg2
  rw [hF2l, ← hn2] at cA1
  have chas := fun (V : World) => refhas1 sa sb sc sd ((i : Int) - dx) ((j : Int) - dy) V
  have hid1 := Lib.hid (And.intro hcl1 (And.intro hk3 (And.intro hF2n hF1n)))
  have hpnt' := Lib.hid hpnt
  have hn2' := Lib.hid hn2
  have hpt := Lib.hid (And.intro hpt1 hpt2)
  clear hn hn2 hF1n hF2n hF1l hF2l hi hj hk3 hcl1 hc1 hc2 hke hpnt hpt1 hpt2 d1 d2 d3
  generalize a.length = la at *
  generalize bl.length = lb at *
  have mixed : Try.prog.follows .mixedOrders = true := by kernel_rfl
  go_enter Try.func8, Try.ntmps8
  go_wp2_with fail
  refine cg1.mono ?_
  rintro e v1 ⟨b1, rfl, C1, hb1, g1⟩
  replace E0 := E0.bl g1
  replace G0 := G0.bl.trans g1
  simp at hb1
  have hEw := E0.lt
  have hCl := C1.lt
  have M1 := At.new v1 #[.int .i64 W, .int .i64 H, .slice (some ⟨b1, 0, none⟩) n n] 25
  replace C1 := C1.alloc (.cells #[.int .i64 W, .int .i64 H, .slice (some ⟨b1, 0, none⟩) n n] 25)
  replace E0 := E0.alloc (.cells #[.int .i64 W, .int .i64 H, .slice (some ⟨b1, 0, none⟩) n n] 25)
  replace G0 := G0.alloc (.cells #[.int .i64 W, .int .i64 H, .slice (some ⟨b1, 0, none⟩) n n] 25)
  clear cg1 g1
  go_wp2_with fail
  refine (cg2 _ G0).mono ?_
  rintro e v2 ⟨b2, rfl, C2, hb2, g2⟩
  replace M1 := M1.bl g2
  replace C1 := C1.bl g2
  replace E0 := E0.bl g2
  replace G0 := G0.trans g2
  simp at hb2
  obtain ⟨bM, hbM⟩ : ∃ bM, bM = v1.heap.size := ⟨_, rfl⟩
  rw [← hbM] at M1 hEw hCl hb2 ⊢
  clear hbM
  have hDl := C2.lt
  have N1 := At.new v2 #[.int .i64 H, .int .i64 W, .slice (some ⟨b2, 0, none⟩) n n] 25
  replace C1 := C1.alloc (.cells #[.int .i64 H, .int .i64 W, .slice (some ⟨b2, 0, none⟩) n n] 25)
  replace C2 := C2.alloc (.cells #[.int .i64 H, .int .i64 W, .slice (some ⟨b2, 0, none⟩) n n] 25)
  replace M1 := M1.alloc (.cells #[.int .i64 H, .int .i64 W, .slice (some ⟨b2, 0, none⟩) n n] 25)
  replace E0 := E0.alloc (.cells #[.int .i64 H, .int .i64 W, .slice (some ⟨b2, 0, none⟩) n n] 25)
  replace G0 := G0.alloc (.cells #[.int .i64 H, .int .i64 W, .slice (some ⟨b2, 0, none⟩) n n] 25)
  clear cg2 g2
  obtain ⟨m0, m1, m2⟩ := cells3 M1
  obtain ⟨n0, n1, n2⟩ := cells3 N1
  go_wp2_with fail
  refine (cb1 _ _ C1.rowC).mono ?_
  rintro e v3 ⟨pm, pc, rfl, I1, hpm, hpc, g3⟩
  simp at hpm hpc
  replace M1 := M1.bl g3
  replace N1 := N1.bl g3
  replace C1 := C1.bl g3
  replace C2 := C2.bl g3
  replace E0 := E0.bl g3
  replace G0 := G0.trans g3
  clear m0 m1 m2 n0 n1 n2 g3 cb1
  obtain ⟨bN, hbN⟩ : ∃ bN, bN = v2.heap.size := ⟨_, rfl⟩
  rw [← hbN] at N1 hDl hpm hpc ⊢
  clear hbN
  have hpl := I1.hd.lt
  have hcl := I1.cs.lt
  obtain ⟨m0, m1, m2⟩ := cells3 M1
  obtain ⟨n0, n1, n2⟩ := cells3 N1
  go_wp2_with fail
  refine (cb2 _ _ C2.rowC).mono ?_
  rintro e v4 ⟨pm2, pc2, rfl, I2, hpm2, hpc2, g4⟩
  replace M1 := M1.bl g4
  replace N1 := N1.bl g4
  replace C1 := C1.bl g4
  replace C2 := C2.bl g4
  replace E0 := E0.bl g4
  replace I1 := I1.bl g4
  replace G0 := G0.trans g4
  clear m0 m1 m2 n0 n1 n2 g4 cb2
  have hb1' : w.heap.size ≤ b1 := by omega
  have hsep : pc ≠ pm2 ∧ pc ≠ pc2 := by omega
  have hsep2 : pc ≠ w.heap.size ∧ pc ≠ bM ∧ pc ≠ bN ∧ pc ≠ b1 ∧ pc ≠ b2 ∧ w.heap.size ≤ pc := by omega
  clear hpm hpc hpl hcl hpm2 hpc2 hEw hCl hDl hb1 hb2
  obtain ⟨m0, m1, m2⟩ := cells3 M1
  obtain ⟨n0, n1, n2⟩ := cells3 N1
  obtain ⟨r0, r1, r2, r3⟩ := cells4 E0
  go_wp2_with fail
  refine (csm _).mono ?_
  rintro e v5 ⟨rfl, g5⟩
  replace M1 := M1.gr g5
  replace N1 := N1.gr g5
  replace C1 := C1.gr g5
  replace C2 := C2.gr g5
  replace I1 := I1.gr g5
  replace I2 := I2.gr g5
  replace G0 := G0.gr g5
  clear m0 m1 m2 n0 n1 n2 r0 r1 r2 r3 g5 E0 csm
  go_wp2_with fail
  refine (cdx _).mono ?_
  rintro e v1' ⟨rfl, rfl⟩
  go_wp2_with fail
  refine (cdy _).mono ?_
  rintro e v1' ⟨rfl, rfl⟩
  go_wp2_with fail
  have E5 := At.new v5 #[.int .i64 sa, .int .i64 sb, .int .i64 sc, .int .i64 sd] 32
  replace M1 := M1.alloc (.cells #[.int .i64 sa, .int .i64 sb, .int .i64 sc, .int .i64 sd] 32)
  replace N1 := N1.alloc (.cells #[.int .i64 sa, .int .i64 sb, .int .i64 sc, .int .i64 sd] 32)
  replace C1 := C1.alloc (.cells #[.int .i64 sa, .int .i64 sb, .int .i64 sc, .int .i64 sd] 32)
  replace C2 := C2.alloc (.cells #[.int .i64 sa, .int .i64 sb, .int .i64 sc, .int .i64 sd] 32)
  replace G0 := G0.alloc (.cells #[.int .i64 sa, .int .i64 sb, .int .i64 sc, .int .i64 sd] 32)
  have hcl := I1.cs.lt
  replace I1 := I1.bl ((Bl.refl v5).alloc (.cells #[.int .i64 sa, .int .i64 sb, .int .i64 sc, .int .i64 sd] 32))
  replace I2 := I2.bl ((Bl.refl v5).alloc (.cells #[.int .i64 sa, .int .i64 sb, .int .i64 sc, .int .i64 sd] 32))
  obtain ⟨bE, hbE⟩ : ∃ bE, bE = v5.heap.size := ⟨_, rfl⟩
  generalize v5.alloc (.cells #[.int .i64 sa, .int .i64 sb, .int .i64 sc, .int .i64 sd] 32) = v5' at *
  rw [← hbE] at E5 hcl ⊢
  clear hbE
  refine (ccp _ _ _ _ _ I1 I2 hsep).mono ?_
  rintro e v6 ⟨ts, rfl, g6, I6, hts⟩
  replace M1 := M1.kept g6 (by simp; omega)
  replace N1 := N1.kept g6 (by simp; omega)
  replace C1 := C1.kept g6 (by simp; omega)
  replace C2 := C2.kept g6 (by simp; omega)
  replace E5 := E5.kept g6 (by simp; omega)
  replace G0 := G0.row g6 (by omega)
  have hpoint := Lib.hid (hpnt'.out ts hts)
  clear g6 I1 I2 ccp hts cdx cdy
  generalize cpAll W H u0 v0 x0 y0 (x1 - x0) F2 F1 ts = F3 at *
  obtain ⟨m0, m1, m2⟩ := cells3 M1
  obtain ⟨n0, n1, n2⟩ := cells3 N1
  obtain ⟨r0, r1, r2, r3⟩ := cells4 E5
  go_wp2_with fail
  refine (cat _).mono ?_
  rintro e v1' ⟨rfl, rfl⟩
  go_wp2_with fail
  clear hsep hsep2
  have hF2len : F2.length = H * W := hid1.out.2.2.1.trans hn2'.out
  have hcase := cp_cases hF2len haw hbh hiW hjH hpt.out.1 hpt.out.2 hpoint.out
  clear hpt hpoint hpnt' hF2len hdxe hdye hu' hxx' hx0 hyy hxw hyh ha hbb haw hbh m0 m1 m2 n0 n1 n2 r0 r1 r2 r3
  have hk' : (k : Int) < (n : Int) := k2
  rcases hcase with ⟨hb, hX⟩ | ⟨p, q, cl2, hp, hq, hpx, hqy, hF2, ⟨hb, hX⟩ | ⟨hb, hX⟩⟩
  · have cA := fun V => cA0 b2 V _ _ hb
    clear cA0 cA1 chas hb hnpos hWH e2 e3 e4 cat dx1 dx2 dy1 dy2 s1 s2 t1 t2 k1 k2 hkn hkW hk9
    refine (at1 v6 I6 i j hiW hjH _ hX).mono ?_
    rintro e v7 ⟨rfl, g7⟩
    replace M1 := M1.gr g7
    replace N1 := N1.gr g7
    replace C1 := C1.gr g7
    replace C2 := C2.gr g7
    replace E5 := E5.gr g7
    replace G0 := G0.gr g7
    clear g7 I6 hX
    obtain ⟨n0, n1, n2⟩ := cells3 N1
    go_wp2_with fail
    refine (cA _).mono ?_
    rintro e v8 ⟨rfl, g8⟩
    replace M1 := M1.gr g8
    replace N1 := N1.gr g8
    replace C1 := C1.gr g8
    replace C2 := C2.gr g8
    replace E5 := E5.gr g8
    replace G0 := G0.gr g8
    clear g8 n0 n1 n2
    obtain ⟨m0, m1, m2⟩ := cells3 M1
    have hcell := C1.rowC k cl1 hid1.out.1
    rw [Nat.zero_add] at hcell
    go_wp2_with fail
    refine (lives1 _).mono ?_
    rintro e v9 ⟨rfl, g9⟩
    go_wp2
    go_ret
    exact ⟨rfl, G0.trans g9⟩
  · have cA := fun (V : World) (h : RowN .u32 V b2 0 F2) => cA1 b2 V h p q hp hq cl2 hF2
    rw [← hpx, ← hqy] at cA
    rw [hb] at chas
    clear cA0 cA1 hpx hqy hb hp hq hF2 hnpos hWH e2 e3 e4 cat dx1 dx2 dy1 dy2 s1 s2 t1 t2 k1 k2 hkn hkW hk9
    refine (at1 v6 I6 i j hiW hjH _ hX).mono ?_
    rintro e v7 ⟨rfl, g7⟩
    replace M1 := M1.gr g7
    replace N1 := N1.gr g7
    replace C1 := C1.gr g7
    replace C2 := C2.gr g7
    replace E5 := E5.gr g7
    replace G0 := G0.gr g7
    clear g7 I6 hX
    obtain ⟨n0, n1, n2⟩ := cells3 N1
    go_wp2_with fail
    refine (cA _ C2.rowC).mono ?_
    rintro e v8 ⟨rfl, g8⟩
    replace M1 := M1.gr g8
    replace N1 := N1.gr g8
    replace C1 := C1.gr g8
    replace C2 := C2.gr g8
    replace E5 := E5.gr g8
    replace G0 := G0.gr g8
    clear g8 n0 n1 n2
    obtain ⟨r0, r1, r2, r3⟩ := cells4 E5
    go_wp2_with fail
    refine (chas _).mono ?_
    rintro e v10 ⟨rfl, g10⟩
    replace M1 := M1.gr g10
    replace N1 := N1.gr g10
    replace C1 := C1.gr g10
    replace C2 := C2.gr g10
    replace E5 := E5.gr g10
    replace G0 := G0.gr g10
    clear g10 r0 r1 r2 r3
    go_wp2_with fail
    refine (lives1 _).mono ?_
    rintro e v9 ⟨rfl, g9⟩
    go_wp2
    go_ret
    exact ⟨rfl, G0.trans g9⟩
  · have cA := fun (V : World) (h : RowN .u32 V b2 0 F2) => cA1 b2 V h p q hp hq cl2 hF2
    rw [← hpx, ← hqy] at cA
    rw [hb] at chas
    clear cA0 cA1 hpx hqy hb hp hq hF2 hnpos hWH e2 e3 e4 cat dx1 dx2 dy1 dy2 s1 s2 t1 t2 k1 k2 hkn hkW hk9
    refine (at1 v6 I6 i j hiW hjH _ hX).mono ?_
    rintro e v7 ⟨rfl, g7⟩
    replace M1 := M1.gr g7
    replace N1 := N1.gr g7
    replace C1 := C1.gr g7
    replace C2 := C2.gr g7
    replace E5 := E5.gr g7
    replace G0 := G0.gr g7
    clear g7 I6 hX
    obtain ⟨n0, n1, n2⟩ := cells3 N1
    go_wp2_with fail
    refine (cA _ C2.rowC).mono ?_
    rintro e v8 ⟨rfl, g8⟩
    replace M1 := M1.gr g8
    replace N1 := N1.gr g8
    replace C1 := C1.gr g8
    replace C2 := C2.gr g8
    replace E5 := E5.gr g8
    replace G0 := G0.gr g8
    clear g8 n0 n1 n2
    obtain ⟨r0, r1, r2, r3⟩ := cells4 E5
    go_wp2_with fail
    refine (chas _).mono ?_
    rintro e v10 ⟨rfl, g10⟩
    replace M1 := M1.gr g10
    replace N1 := N1.gr g10
    replace C1 := C1.gr g10
    replace C2 := C2.gr g10
    replace E5 := E5.gr g10
    replace G0 := G0.gr g10
    clear g10 r0 r1 r2 r3
    obtain ⟨m0, m1, m2⟩ := cells3 M1
    have hcell := C1.rowC k cl1 hid1.out.1
    rw [Nat.zero_add] at hcell
    go_wp2_with fail
    refine (lives1 _).mono ?_
    rintro e v9 ⟨rfl, g9⟩
    go_wp2
    go_ret
    exact ⟨rfl, G0.trans g9⟩

set_option maxRecDepth 100000 in
theorem imageCopies_lifted (os : Os) (started : os.Started) (H : Type) (enc : TypeId × Value → H) :
    ReturnsInHanded {} Try.checked os 8 .any (Rows.imageCopiesSpec.pre6 enc Try.prog Try.f8 Rows.imageCopiesRow.domain false) (Rows.imageCopiesSpec.post enc Try.prog Try.f8 false true false false) := by
  refine returnsInHanded_of_change (C := Try.checked) own started (by kernel_rfl) Try.func8
    (ChangeSpec.witness6 (enc := enc) (C := Try.checked) false ⟨#[], #[.int .i64 0, .int .i64 0, .slice none 0 0, .slice none 0 0, .agg #[.int .i64 0, .int .i64 0, .int .i64 0, .int .i64 0], .int .i64 0, .int .i64 0, .int .i64 0], []⟩ 8 (by kernel_rfl) (by kernel_rfl) (by kernel_rfl) (by kernel_rfl)) ?_
  intro W base args ds gs before hval0 hW hcnd _
  have hval : ∀ (j : Nat) t v, Try.f8.params[j]? = some t → args[j]? = some v → Value.okWide Try.prog W .any base t v := hval0
  have hW' := hW
  obtain ⟨p, q, hA0, hV, rfl, hfz, hnd⟩ := hW
  have hA : DataW.TrodAll enc Try.prog W 0 (fun _ => true) true Try.f8.params.toList args.toList ds p := hA0
  rw [Try.params8] at hA hval
  obtain ⟨v0, vs0, d0, ds0, p0, q0, hargs, rfl, rfl, h0, r0⟩ := trodAll_cons hA
  obtain ⟨v1, vs1, d1, ds1, p1, q1, rfl, rfl, rfl, h1, r1⟩ := trodAll_cons r0
  obtain ⟨v2, vs2, d2, ds2, p2, q2, rfl, rfl, rfl, h2, r2⟩ := trodAll_cons r1
  obtain ⟨v3, vs3, d3, ds3, p3, q3, rfl, rfl, rfl, h3, r3⟩ := trodAll_cons r2
  obtain ⟨v4, vs4, d4, ds4, p4, q4, rfl, rfl, rfl, h4, r4⟩ := trodAll_cons r3
  obtain ⟨v5, vs5, d5, ds5, p5, q5, rfl, rfl, rfl, h5, r5⟩ := trodAll_cons r4
  obtain ⟨v6, vs6, d6, ds6, p6, q6, rfl, rfl, rfl, h6, r6⟩ := trodAll_cons r5
  obtain ⟨v7, vs7, d7, ds7, p7, q7, rfl, rfl, rfl, h7, r7⟩ := trodAll_cons r6
  obtain ⟨rfl, rfl, rfl⟩ := trodAll_nil r7
  obtain rfl : args = #[v0, v1, v2, v3, v4, v5, v6, v7] := by cases args; simp_all
  obtain ⟨rfl, rfl⟩ := trodVars_none hV
  obtain ⟨n0, rfl, rfl, rfl, un0⟩ := open_int Try.underlying3 (hval 0 3 v0 rfl rfl) h0
  have wn0 := I64.of_wf un0
  obtain ⟨n1, rfl, rfl, rfl, un1⟩ := open_int Try.underlying3 (hval 1 3 v1 rfl rfl) h1
  have wn1 := I64.of_wf un1
  obtain ⟨A2, c2, L2, rfl, hc2, hm2, hr2, hI2⟩ := open_colors (hval 2 22 v2 rfl rfl) h2
  unfold maxLen at hm2
  obtain ⟨A3, c3, L3, rfl, hc3, hm3, hr3, hI3⟩ := open_colors (hval 3 22 v3 rfl rfl) h3
  unfold maxLen at hm3
  obtain ⟨a4, b4, c4, d4, rfl, rfl, rfl, ua4, ub4, uc4, ud4⟩ := open_rect (hval 4 32 v4 rfl rfl) h4
  have wa4 := I64.of_wf ua4
  have wb4 := I64.of_wf ub4
  have wc4 := I64.of_wf uc4
  have wd4 := I64.of_wf ud4
  obtain ⟨n5, rfl, rfl, rfl, un5⟩ := open_int Try.underlying3 (hval 5 3 v5 rfl rfl) h5
  have wn5 := I64.of_wf un5
  obtain ⟨n6, rfl, rfl, rfl, un6⟩ := open_int Try.underlying3 (hval 6 3 v6 rfl rfl) h6
  have wn6 := I64.of_wf un6
  obtain ⟨n7, rfl, rfl, rfl, un7⟩ := open_int Try.underlying3 (hval 7 3 v7 rfl rfl) h7
  have wn7 := I64.of_wf un7
  clear hA0 hval0
  simp only [List.append_nil, List.nil_append] at hW'
  have hlt := hW'.lt
  refine (icopies_walk n0 n1 A2 c2 L2 A3 c3 L3 a4 b4 c4 d4 n5 n6 n7 W wn0 wn1 hr2 hI2 hc2 (by unfold maxLen; omega) hr3 hI3 hc3 (by unfold maxLen; omega) wa4 wb4 wc4 wd4 wn5 wn6 wn7).mono fun e W' ⟨he, hb⟩ => ?_
  subst he
  exact ⟨_, rfl, close_below (pa := p2 ++ p3) (pv := []) hW' (fun _ _ _ => (trodAll_cons_mk (shut_bool Try.underlying4 _) trodAll_mk0)) (fun sp hsp => by
      have := (trodAll_cons_mk (shut_int Try.underlying3 un0) (trodAll_cons_mk (shut_int Try.underlying3 un1) (trodAll_cons_mk (WideElems.Trod_stays laidOut (by kernel_rfl) (of_decide_eq_true (by kernel_rfl)) h2 (fun x hx => Below.same hb (hlt x (by simp [hx]))) (sp' := sp) (fun x hx => hsp x (by simp [hx]))) (trodAll_cons_mk (WideElems.Trod_stays laidOut (by kernel_rfl) (of_decide_eq_true (by kernel_rfl)) h3 (fun x hx => Below.same hb (hlt x (by simp [hx]))) (sp' := sp) (fun x hx => hsp x (by simp [hx]))) (trodAll_cons_mk (shut_rect ua4 ub4 uc4 ud4) (trodAll_cons_mk (shut_int Try.underlying3 un5) (trodAll_cons_mk (shut_int Try.underlying3 un6) (trodAll_cons_mk (shut_int Try.underlying3 un7) trodAll_mk0))))))))
      simp only [List.append_nil, List.nil_append] at this
      exact this)
    (fun _ _ => rfl) (by simp) hb (ok_one (by kernel_rfl) rfl (okWide_bool_mk Try.underlying4 _))⟩

theorem imageCopies_holds : Rows.ImageCopiesSaid :=
  OpenClaim.holds_of_wide 8 Try.f8 rfl rfl rfl rfl rfl rfl rfl ⟨rfl, rfl, rfl, rfl, rfl⟩ rfl rfl rfl rfl rfl (by kernel_rfl) Try.func8 (by kernel_rfl)
    (of_decide_eq_true (by kernel_rfl)) (by unfold Func.isWrapper; first | (rw [if_pos (by decide +kernel)]; kernel_rfl) | (rw [if_neg (by decide +kernel)]; exact ⟨rfl, rfl⟩))
    (fun os started H enc _ => imageCopies_lifted os started H enc)

#print axioms imageCopies_holds

end Go.Proofs.Ytlbpeogjedjpnaa
