/-
  What is proved: the statement PaintScales: a layer of a scale shows each point of its image so many times so many, side by side. No conditions.
-/
import Derived.Test.YtleamlecjojfdaaZm
namespace Go.Proofs.Ytleamlecjojfdaa
open Go.ChangeShapes Go.WideShapes Go.ChangeAt Go.RowKit Go.Joins Go.Sort Go.Deep

theorem quo_of {a k s e : Nat} (hs : 1 ≤ s) (he : e < s) (h : a = k * s + e) : a / s = k := by
  subst h
  rw [Nat.mul_comm, Nat.mul_add_div (by omega), Nat.div_eq_of_lt he, Nat.add_zero]
theorem shows_at {W H σ kx ky ix iy : Nat} {a1 a2 : Int} (h1 : kx < W) (h2 : ky < H) (hs : 1 ≤ σ) (h3 : ix < σ) (h4 : iy < σ) :
    (a1 + ((kx * σ : Nat) : Int) + (ix : Int) - a1) / (σ : Int) = (kx : Int) ∧ (a2 + ((ky * σ : Nat) : Int) + (iy : Int) - a2) / (σ : Int) = (ky : Int) ∧
      lyHas ⟨0, 0, W, H⟩ W H σ a1 a2 (a1 + ((kx * σ : Nat) : Int) + (ix : Int)) (a2 + ((ky * σ : Nat) : Int) + (iy : Int)) = true := by
  have e1 : (a1 + ((kx * σ : Nat) : Int) + (ix : Int) - a1) / (σ : Int) = (kx : Int) := by
    rw [show a1 + ((kx * σ : Nat) : Int) + (ix : Int) - a1 = ((kx * σ + ix : Nat) : Int) by omega, ← Int.natCast_ediv, quo_of hs h3 rfl]
  have e2 : (a2 + ((ky * σ : Nat) : Int) + (iy : Int) - a2) / (σ : Int) = (ky : Int) := by
    rw [show a2 + ((ky * σ : Nat) : Int) + (iy : Int) - a2 = ((ky * σ + iy : Nat) : Int) by omega, ← Int.natCast_ediv, quo_of hs h4 rfl]
  refine ⟨e1, e2, ?_⟩
  unfold lyHas
  rw [e1, e2]
  simp [hasB]
  omega

theorem sc_nums {kx ky W H σ : Nat} {a1 a2 : Int} (d1 : kx < W) (d2 : ky < H) (w16 : W ≤ 16) (h16 : H ≤ 16) (s1 : 1 ≤ (σ : Int)) (s3 : (σ : Int) ≤ 3) (b1 : -6 ≤ a1) (b2 : a1 ≤ 17) (b3 : -6 ≤ a2) (b4 : a2 ≤ 17) :
    ∃ mx my S2 : Nat, mx = kx * σ ∧ my = ky * σ ∧ S2 = σ * σ ∧ mx ≤ 48 ∧ my ≤ 48 ∧ S2 ≤ 9 ∧ IntKind.i64.wrap ((σ : Int) * (σ : Int)) = (S2 : Int) ∧ wrap64 ((σ : Int) * (σ : Int)) = (S2 : Int) ∧
      IntKind.i64.wrap ((kx : Int) * (σ : Int)) = (mx : Int) ∧ wrap64 ((kx : Int) * (σ : Int)) = (mx : Int) ∧ IntKind.i64.wrap ((ky : Int) * (σ : Int)) = (my : Int) ∧ wrap64 ((ky : Int) * (σ : Int)) = (my : Int) ∧
      IntKind.i64.wrap (a1 + (mx : Int)) = a1 + (mx : Int) ∧ wrap64 (a1 + (mx : Int)) = a1 + (mx : Int) ∧ IntKind.i64.wrap (a2 + (my : Int)) = a2 + (my : Int) ∧ wrap64 (a2 + (my : Int)) = a2 + (my : Int) := by
  have hx := Nat.mul_le_mul (show kx ≤ 16 by omega) (show σ ≤ 3 by omega)
  have hy := Nat.mul_le_mul (show ky ≤ 16 by omega) (show σ ≤ 3 by omega)
  have hs := Nat.mul_le_mul (show σ ≤ 3 by omega) (show σ ≤ 3 by omega)
  have ex : (kx : Int) * (σ : Int) = ((kx * σ : Nat) : Int) := (Int.natCast_mul _ _).symm
  have ey : (ky : Int) * (σ : Int) = ((ky * σ : Nat) : Int) := (Int.natCast_mul _ _).symm
  have es : (σ : Int) * (σ : Int) = ((σ * σ : Nat) : Int) := (Int.natCast_mul _ _).symm
  rw [ex, ey, es]
  refine ⟨kx * σ, ky * σ, σ * σ, rfl, rfl, rfl, hx, hy, hs, ?_⟩
  generalize kx * σ = mx at *
  generalize ky * σ = my at *
  generalize σ * σ = S2 at *
  clear ex ey es
  refine ⟨IntWalk.i64_in _ (by omega), w64i (by omega) (by omega), IntWalk.i64_in _ (by omega), w64i (by omega) (by omega), IntWalk.i64_in _ (by omega), w64i (by omega) (by omega), IntWalk.i64_in _ (by omega), w64i (by omega) (by omega), IntWalk.i64_in _ (by omega), w64i (by omega) (by omega)⟩
theorem sc_round {mx my σ j S2 : Nat} {a1 a2 : Int} (s1 : 1 ≤ (σ : Int)) (s3 : (σ : Int) ≤ 3) (hS : S2 = σ * σ) (hj : j < S2) (b1 : -6 ≤ a1) (b2 : a1 ≤ 17) (b3 : -6 ≤ a2) (b4 : a2 ≤ 17) (hx : mx ≤ 48) (hy : my ≤ 48) :
    ∃ ix iy : Nat, ix < σ ∧ iy < σ ∧ ¬ σ = 0 ∧ ((j : Int).tmod (σ : Int)) = (ix : Int) ∧ ((j : Int) % (σ : Int)) = (ix : Int) ∧ ((j : Int) / (σ : Int)) = (iy : Int) ∧ IntKind.i64.wrap (ix : Int) = (ix : Int) ∧ IntKind.i64.wrap (iy : Int) = (iy : Int) ∧ wrap64 (ix : Int) = (ix : Int) ∧ wrap64 (iy : Int) = (iy : Int) ∧
      IntKind.i64.wrap (a1 + (mx : Int) + (ix : Int)) = a1 + (mx : Int) + (ix : Int) ∧ IntKind.i64.wrap (a2 + (my : Int) + (iy : Int)) = a2 + (my : Int) + (iy : Int) ∧ wrap64 (a1 + (mx : Int) + (ix : Int)) = a1 + (mx : Int) + (ix : Int) ∧ wrap64 (a2 + (my : Int) + (iy : Int)) = a2 + (my : Int) + (iy : Int) ∧
      Far (a1 + (mx : Int) + (ix : Int)) ∧ Far (a2 + (my : Int) + (iy : Int)) := by
  have hs9 := Nat.mul_le_mul (show σ ≤ 3 by omega) (show σ ≤ 3 by omega)
  obtain ⟨ix, iy, hix, hiy, i1, i2, i3, i4, i5, i6, i7, i8⟩ := rem_quo j σ (by omega) (by omega)
  have h1 : ix < σ := by rw [hix]; exact Nat.mod_lt _ (by omega)
  have h2 : iy < σ := by rw [hiy]; exact Nat.div_lt_of_lt_mul (by rw [← hS]; exact hj)
  refine ⟨ix, iy, h1, h2, i1, i2, i3, i4, i5, i6, i7, i8, ?_⟩
  clear i1 i2 i3 i4 i5 i6 i7 i8 hix hiy hS hs9
  unfold Far
  exact ⟨IntWalk.i64_in _ (by omega), IntWalk.i64_in _ (by omega), w64i (by omega) (by omega), w64i (by omega) (by omega), by omega, by omega⟩

set_option maxRecDepth 100000 in
set_option maxHeartbeats 4000000 in
theorem pscales_walk (sm : Bool) (W0 H0 : Int) (A0 : Option Addr) (n0 c0 : Nat) (ax ay s al : Int) (cp : Rc) (cw ch : Int) (A : Option Addr) (cap : Nat) (L : List Int) (at_ : Int) (w : World) (hK : KOk ax ay s al cp cw ch) (hlc : L.length ≤ cap) (hcm : cap ≤ maxLen) (hA : Ns .u32 w A L) (h32 : ∀ c ∈ L, C32 c) (hat : I64 at_) :
    Calls Try.prog 14 #[.agg #[.bool sm, .int .i64 W0, .int .i64 H0, .slice A0 n0 c0, .int .i64 ax, .int .i64 ay, .int .i64 s, .int .i64 al, .int .i64 cp.a, .int .i64 cp.b, .int .i64 cp.c, .int .i64 cp.d, .int .i64 cw, .int .i64 ch, .slice A L.length cap], .int .i64 at_] w (fun e w' => e = .returned (.bool true) ∧ Bl w w') := by
  have G := (Gr.refl w).alloc (.cells #[.bool sm, .int .i64 W0, .int .i64 H0, .slice A0 n0 c0, .int .i64 ax, .int .i64 ay, .int .i64 s, .int .i64 al, .int .i64 cp.a, .int .i64 cp.b, .int .i64 cp.c, .int .i64 cp.d, .int .i64 cw, .int .i64 ch, .slice A L.length cap] 78)
  have cg := kgood1 sm W0 H0 A0 n0 c0 ax ay s al cp cw ch A cap L _ hK hlc hcm (hA.bl G.bl) h32
  have cAr := fun (n : Nat) (h1 : 1 ≤ n) (h2 : n ≤ 1000000) w => around1 at_ n w hat (by omega)
  clear h32 hlc hcm hA hK
  generalize L.length = la at *
  go_enter Try.func14, Try.ntmps14
  go_wp2_with fail
  refine cg.mono ?_
  rintro e v1 ⟨W, H, n, F, a1, a2, s1, l1, rb, hG, rfl, C1, hb1, g1⟩
  replace G := G.bl.trans g1
  have hG0 := G.size
  clear g1 cg hb1 hat
  have B7 := At.new v1 #[.bool true, .int .i64 W, .int .i64 H, .slice (some ⟨rb, 0, none⟩) n n, .int .i64 a1, .int .i64 a2, .int .i64 s1, .int .i64 l1, .int .i64 cp.a, .int .i64 cp.b, .int .i64 cp.c, .int .i64 cp.d] 76
  replace C1 := C1.alloc (.cells #[.bool true, .int .i64 W, .int .i64 H, .slice (some ⟨rb, 0, none⟩) n n, .int .i64 a1, .int .i64 a2, .int .i64 s1, .int .i64 l1, .int .i64 cp.a, .int .i64 cp.b, .int .i64 cp.c, .int .i64 cp.d] 76)
  replace G := G.alloc (.cells #[.bool true, .int .i64 W, .int .i64 H, .slice (some ⟨rb, 0, none⟩) n n, .int .i64 a1, .int .i64 a2, .int .i64 s1, .int .i64 l1, .int .i64 cp.a, .int .i64 cp.b, .int .i64 cp.c, .int .i64 cp.d] 76)
  have hr7 := C1.lt
  have hb7 : w.heap.size ≤ v1.heap.size := hG0
  go_wp2_with fail
  refine (refBox1 _).mono ?_
  rintro e v2 ⟨rfl, g2⟩
  replace B7 := B7.gr g2
  replace C1 := C1.gr g2
  replace G := G.gr g2
  have hrne : rb ≠ v1.heap.size := by
    intro h
    have h1 := B7; have h2 := C1
    rw [← h] at h1
    unfold At at h1 h2
    rw [h1] at h2
    injection h2 with h2
    injection h2 with _ h2
    exact absurd h2 (by decide)
  generalize v1.heap.size = b7 at *
  clear g2 hr7 hG0
  have q0 : v2.cell? ⟨b7, 8, none⟩ = some (.int .i64 cp.a) := B7.cell 8
  have q1 : v2.cell? ⟨b7, 9, none⟩ = some (.int .i64 cp.b) := B7.cell 9
  have q2 : v2.cell? ⟨b7, 10, none⟩ = some (.int .i64 cp.c) := B7.cell 10
  have q3 : v2.cell? ⟨b7, 11, none⟩ = some (.int .i64 cp.d) := B7.cell 11
  have q4 := B7.free 8
  have q5 := B7.free 9
  have q6 := B7.free 10
  have q7 := B7.free 11
  have B9 := (((B7.put 8 (.int .i64 0)).put 9 (.int .i64 0)).put 10 (.int .i64 W)).put 11 (.int .i64 H)
  have C9 := (((C1.far (p := ⟨b7, 8, none⟩) hrne (.int .i64 0)).far (p := ⟨b7, 9, none⟩) hrne (.int .i64 0)).far (p := ⟨b7, 10, none⟩) hrne (.int .i64 W)).far (p := ⟨b7, 11, none⟩) hrne (.int .i64 H)
  have G9 := (((G.setCell (p := ⟨b7, 8, none⟩) hb7 (.int .i64 0)).setCell (p := ⟨b7, 9, none⟩) hb7 (.int .i64 0)).setCell (p := ⟨b7, 10, none⟩) hb7 (.int .i64 W)).setCell (p := ⟨b7, 11, none⟩) hb7 (.int .i64 H)
  simp at B9
  have z0 : ((((v2.setCell ⟨b7, 8, none⟩ (.int .i64 0)).setCell ⟨b7, 9, none⟩ (.int .i64 0)).setCell ⟨b7, 10, none⟩ (.int .i64 W)).setCell ⟨b7, 11, none⟩ (.int .i64 H)).cell? ⟨b7, 0, none⟩ = some (.bool true) := B9.cell 0
  have z1 : ((((v2.setCell ⟨b7, 8, none⟩ (.int .i64 0)).setCell ⟨b7, 9, none⟩ (.int .i64 0)).setCell ⟨b7, 10, none⟩ (.int .i64 W)).setCell ⟨b7, 11, none⟩ (.int .i64 H)).cell? ⟨b7, 1, none⟩ = some (.int .i64 W) := B9.cell 1
  have z2 : ((((v2.setCell ⟨b7, 8, none⟩ (.int .i64 0)).setCell ⟨b7, 9, none⟩ (.int .i64 0)).setCell ⟨b7, 10, none⟩ (.int .i64 W)).setCell ⟨b7, 11, none⟩ (.int .i64 H)).cell? ⟨b7, 2, none⟩ = some (.int .i64 H) := B9.cell 2
  have z3 : ((((v2.setCell ⟨b7, 8, none⟩ (.int .i64 0)).setCell ⟨b7, 9, none⟩ (.int .i64 0)).setCell ⟨b7, 10, none⟩ (.int .i64 W)).setCell ⟨b7, 11, none⟩ (.int .i64 H)).cell? ⟨b7, 3, none⟩ = some (.slice (some ⟨rb, 0, none⟩) n n) := B9.cell 3
  have z4 : ((((v2.setCell ⟨b7, 8, none⟩ (.int .i64 0)).setCell ⟨b7, 9, none⟩ (.int .i64 0)).setCell ⟨b7, 10, none⟩ (.int .i64 W)).setCell ⟨b7, 11, none⟩ (.int .i64 H)).cell? ⟨b7, 4, none⟩ = some (.int .i64 a1) := B9.cell 4
  have z5 : ((((v2.setCell ⟨b7, 8, none⟩ (.int .i64 0)).setCell ⟨b7, 9, none⟩ (.int .i64 0)).setCell ⟨b7, 10, none⟩ (.int .i64 W)).setCell ⟨b7, 11, none⟩ (.int .i64 H)).cell? ⟨b7, 5, none⟩ = some (.int .i64 a2) := B9.cell 5
  have z6 : ((((v2.setCell ⟨b7, 8, none⟩ (.int .i64 0)).setCell ⟨b7, 9, none⟩ (.int .i64 0)).setCell ⟨b7, 10, none⟩ (.int .i64 W)).setCell ⟨b7, 11, none⟩ (.int .i64 H)).cell? ⟨b7, 6, none⟩ = some (.int .i64 s1) := B9.cell 6
  have z7 : ((((v2.setCell ⟨b7, 8, none⟩ (.int .i64 0)).setCell ⟨b7, 9, none⟩ (.int .i64 0)).setCell ⟨b7, 10, none⟩ (.int .i64 W)).setCell ⟨b7, 11, none⟩ (.int .i64 H)).cell? ⟨b7, 7, none⟩ = some (.int .i64 l1) := B9.cell 7
  have z8 : ((((v2.setCell ⟨b7, 8, none⟩ (.int .i64 0)).setCell ⟨b7, 9, none⟩ (.int .i64 0)).setCell ⟨b7, 10, none⟩ (.int .i64 W)).setCell ⟨b7, 11, none⟩ (.int .i64 H)).cell? ⟨b7, 8, none⟩ = some (.int .i64 0) := B9.cell 8
  have z9 : ((((v2.setCell ⟨b7, 8, none⟩ (.int .i64 0)).setCell ⟨b7, 9, none⟩ (.int .i64 0)).setCell ⟨b7, 10, none⟩ (.int .i64 W)).setCell ⟨b7, 11, none⟩ (.int .i64 H)).cell? ⟨b7, 9, none⟩ = some (.int .i64 0) := B9.cell 9
  have z10 : ((((v2.setCell ⟨b7, 8, none⟩ (.int .i64 0)).setCell ⟨b7, 9, none⟩ (.int .i64 0)).setCell ⟨b7, 10, none⟩ (.int .i64 W)).setCell ⟨b7, 11, none⟩ (.int .i64 H)).cell? ⟨b7, 10, none⟩ = some (.int .i64 W) := B9.cell 10
  have z11 : ((((v2.setCell ⟨b7, 8, none⟩ (.int .i64 0)).setCell ⟨b7, 9, none⟩ (.int .i64 0)).setCell ⟨b7, 10, none⟩ (.int .i64 W)).setCell ⟨b7, 11, none⟩ (.int .i64 H)).cell? ⟨b7, 11, none⟩ = some (.int .i64 H) := B9.cell 11
  go_wp2_with fail
  clear q0 q1 q2 q3 q4 q5 q6 q7 z0 z1 z2 z3 z4 z5 z6 z7 z8 z9 z10 z11 B7 C1 G
  generalize ((((v2.setCell ⟨b7, 8, none⟩ (.int .i64 0)).setCell ⟨b7, 9, none⟩ (.int .i64 0)).setCell ⟨b7, 10, none⟩ (.int .i64 W)).setCell ⟨b7, 11, none⟩ (.int .i64 H)) = V at *
  have hs16 := hG.b3
  obtain ⟨σ, rfl⟩ : ∃ σ : Nat, s1 = (σ : Int) := ⟨s1.toNat, by omega⟩
  have w16 := hG.w2
  have h16 := hG.h2
  refine (layer1 (rc := n) (n := n) a1 a2 σ l1 ⟨0, 0, W, H⟩ V C9.rowC hG.len.symm (hG.len.trans hG.hn) hG.w1 (by omega) hG.h1 (by omega) hG.may).mono ?_
  rintro e v3 ⟨pm, pc, rfl, I2, hpm, hpc, g3⟩
  replace B9 := B9.bl g3
  replace C9 := C9.bl g3
  replace G9 := G9.trans g3
  clear hpm hpc g3 hb7 hrne
  have B8 := At.new v3 #[.pointer (some ⟨pm, 0, none⟩), .int .i64 a1, .int .i64 a2, .int .i64 σ, .int .i64 l1, .int .i64 0, .int .i64 0, .int .i64 W, .int .i64 H] 82
  replace B9 := B9.alloc (.cells #[.pointer (some ⟨pm, 0, none⟩), .int .i64 a1, .int .i64 a2, .int .i64 σ, .int .i64 l1, .int .i64 0, .int .i64 0, .int .i64 W, .int .i64 H] 82)
  replace C9 := C9.alloc (.cells #[.pointer (some ⟨pm, 0, none⟩), .int .i64 a1, .int .i64 a2, .int .i64 σ, .int .i64 l1, .int .i64 0, .int .i64 0, .int .i64 W, .int .i64 H] 82)
  replace I2 := I2.gr ((Gr.refl v3).alloc (.cells #[.pointer (some ⟨pm, 0, none⟩), .int .i64 a1, .int .i64 a2, .int .i64 σ, .int .i64 l1, .int .i64 0, .int .i64 0, .int .i64 W, .int .i64 H] 82))
  replace G9 := G9.alloc (.cells #[.pointer (some ⟨pm, 0, none⟩), .int .i64 a1, .int .i64 a2, .int .i64 σ, .int .i64 l1, .int .i64 0, .int .i64 0, .int .i64 W, .int .i64 H] 82)
  have hn1 : 1 ≤ n := by have := Nat.mul_pos hG.w1 hG.h1; rw [hG.hn]; exact this
  have hn2 : n ≤ 256 := by have := Nat.mul_le_mul w16 h16; rw [hG.hn]; exact this
  have k3 : (v3.alloc (.cells #[.pointer (some ⟨pm, 0, none⟩), .int .i64 a1, .int .i64 a2, .int .i64 σ, .int .i64 l1, .int .i64 0, .int .i64 0, .int .i64 W, .int .i64 H] 82)).cell? ⟨b7, 3, none⟩ = some (.slice (some ⟨rb, 0, none⟩) n n) := B9.cell 3
  dsimp only at *
  go_wp2_with fail
  clear k3
  generalize v3.alloc (.cells #[.pointer (some ⟨pm, 0, none⟩), .int .i64 a1, .int .i64 a2, .int .i64 σ, .int .i64 l1, .int .i64 0, .int .i64 0, .int .i64 W, .int .i64 H] 82) = U at *
  generalize v3.heap.size = b8 at *
  refine (cAr n hn1 (by omega) _).mono ?_
  obtain ⟨r1, r2⟩ := around_bd at_ n (by omega)
  obtain ⟨k, hk⟩ : ∃ k : Nat, around at_ n = (k : Int) := ⟨(around at_ n).toNat, by omega⟩
  rw [hk] at r2 ⊢
  have hkn : k < n := by omega
  clear hk r1 r2 cAr
  rintro e v ⟨rfl, rfl⟩
  obtain ⟨c, hc⟩ : ∃ c, F[k]? = some c := ⟨F[k]'(by rw [hG.len]; exact hkn), List.getElem?_eq_getElem _⟩
  have hc32 := hG.c32 c (get_of hc).1
  have hcell : ∀ U', Gr U U' → U'.cell? ⟨rb, k, none⟩ = some (.int .u32 c) := fun U' g => by have := (C9.gr g).rowC _ _ hc; rwa [Nat.zero_add] at this
  obtain ⟨d1, d2, d3⟩ := div_of (k := k) (H := H) hG.w1 (by rw [← hG.hn]; exact hkn)
  obtain ⟨kx, ky, hkx, hky, x1, x2, x3, x4, x5, x6, x7, x8⟩ := rem_quo k W hG.w1 (by omega)
  rw [← hkx] at d1
  rw [← hky] at d2
  rw [← hkx, ← hky] at d3
  have hav : atV W H F kx ky = c := by
    have := atV_nat (W := W) (H := H) (L := F) (hG.len.trans hG.hn) d1 d2
    rw [d3, hc] at this
    injection this with this
    exact this.symm
  clear hkx hky hc d3
  have hl1 := Lib.hid hav
  clear hav
  have cF := fun w => reffade1 c l1 w hc32
  have y3 : ∀ dq os, (grow (U.drewN dq) os).cell? ⟨b7, 3, none⟩ = some (.slice (some ⟨rb, 0, none⟩) n n) := fun q os => B9.cells q os 3
  have y7 : ∀ dq os, (grow (U.drewN dq) os).cell? ⟨b7, 7, none⟩ = some (.int .i64 l1) := fun q os => B9.cells q os 7
  have yc : ∀ dq os, (grow (U.drewN dq) os).cell? ⟨rb, k, none⟩ = some (.int .u32 c) := fun q os => hcell _ (((Gr.refl U).drewN q).grow os)
  go_wp2
  refine wp_region_quiet_grown (by kernel_rfl) (by kernel_rfl) ?_
  repeat (first | go_big_quiet_step ((go_at_call 68; exact Calls.grown (cF _))) | quiet_step ((go_at_call 68; exact Calls.grown (cF _))))
  refine wpQuiet_nil ?_
  intro W2 g8
  replace g8 : Gr _ W2 := g8
  clear y3 y7 yc cF hcell
  go_wp2
  have G10 := G9.gr g8
  replace B9 := B9.gr g8
  replace B8 := B8.gr g8
  replace I2 := I2.gr g8
  obtain ⟨b1, b2⟩ := hG.b1
  obtain ⟨b3, b4⟩ := hG.b2
  obtain ⟨mx, my, S2, hmx, hmy, hS2, hx48, hy48, hS9, pS1, pS2, pX1, pX2, pY1, pY2, sX1, sX2, sY1, sY2⟩ := sc_nums (a1 := a1) (a2 := a2) d1 d2 w16 h16 hs16.1 hs16.2 b1 b2 b3 b4
  obtain ⟨hσ1, hσ3⟩ := hs16
  have HX := Lib.hid hmx
  have HY := Lib.hid hmy
  have HS := Lib.hid hS2
  have hLy := hG.ly
  have hc32 := hG.c32
  have HK := Lib.hid (And.intro x1 (And.intro x2 (And.intro x3 (And.intro x4 (And.intro x5 (And.intro x6 (And.intro x7 x8)))))))
  have HP := Lib.hid (And.intro pX1 (And.intro pX2 (And.intro pY1 (And.intro pY2 (And.intro sX1 (And.intro sX2 (And.intro sY1 sY2)))))))
  have HQ := Lib.hid (And.intro pS1 pS2)
  clear hmx hmy hS2 hG x1 x2 x3 x4 x5 x6 x7 x8 pX1 pX2 pY1 pY2 sX1 sX2 sY1 sY2 pS1 pS2
  go_loopw [9] (fun i wr => ∃ j : Nat, j ≤ S2 ∧ i = .int .i64 j ∧ Gr W2 wr) (fun i _ => S2 - (intOf i).toNat)
  case atStart => exact ⟨0, Nat.zero_le _, rfl, Gr.refl _⟩
  case round =>
    obtain ⟨j, hj, rfl, Gk⟩ := hrel
    have Bk := B9.gr Gk
    obtain ⟨pS1, pS2⟩ := HQ.out
    have z6 : wr.cell? ⟨b7, 6, none⟩ = some (.int .i64 σ) := Bk.cell 6
    by_cases hlt : j < S2
    · obtain ⟨ix, iy, hix2, hiy2, i1, i2, i3, i4, i5, i6, i7, i8, tX1, tY1, tX2, tY2, fx, fy⟩ := sc_round (a1 := a1) (a2 := a2) hσ1 hσ3 HS.out hlt b1 b2 b3 b4 hx48 hy48
      obtain ⟨s1, s2, s3⟩ := shows_at (a1 := a1) (a2 := a2) d1 d2 (Int.ofNat_le.1 hσ1) hix2 hiy2
      rw [← HX.out, ← HY.out] at s3
      rw [← HX.out] at s1
      rw [← HY.out] at s2
      have cC := fun (w' : World) (g : Gr W2 w') => pcolor1 a1 a2 σ l1 ⟨0, 0, W, H⟩ (a1 + (mx : Int) + (ix : Int)) (a2 + (my : Int) + (iy : Int)) w' (I2.gr g).x hc32 hσ1 (Int.le_trans hσ3 (by decide)) fx fy ⟨Int.le_trans (by decide) b1, Int.le_trans b2 (by decide)⟩ ⟨Int.le_trans (by decide) b3, Int.le_trans b4 (by decide)⟩ (fun w'' g' => pbox1 a1 a2 σ l1 ⟨0, 0, W, H⟩ w'' ((I2.gr g).gr g') hLy)
      have hcol : lyCol ⟨0, 0, W, H⟩ W H F σ a1 a2 l1 (a1 + (mx : Int) + (ix : Int)) (a2 + (my : Int) + (iy : Int)) = fd c l1 := by
        unfold lyCol
        rw [if_pos s3, s1, s2, hl1.out]
      rw [hcol, s3] at cC
      dsimp only at cC
      clear hcol s1 s2 s3 fx fy hix2 hiy2
      have cC1 := fun q os => cC _ (Gk.trans (((Gr.refl wr).drewN q).grow os))
      have B8k := B8.gr Gk
      obtain ⟨x1, x2, x3, x4, x5, x6, x7, x8⟩ := HK.out
      obtain ⟨pX1, pX2, pY1, pY2, sX1, sX2, sY1, sY2⟩ := HP.out
      have y0 : ∀ dq os, (grow (wr.drewN dq) os).cell? ⟨b8, 0, none⟩ = some (.pointer (some ⟨pm, 0, none⟩)) := fun q os => (B8k).cells q os 0
      have y1 : ∀ dq os, (grow (wr.drewN dq) os).cell? ⟨b8, 1, none⟩ = some (.int .i64 a1) := fun q os => (B8k).cells q os 1
      have y2 : ∀ dq os, (grow (wr.drewN dq) os).cell? ⟨b8, 2, none⟩ = some (.int .i64 a2) := fun q os => (B8k).cells q os 2
      have y3 : ∀ dq os, (grow (wr.drewN dq) os).cell? ⟨b8, 3, none⟩ = some (.int .i64 σ) := fun q os => (B8k).cells q os 3
      have y4 : ∀ dq os, (grow (wr.drewN dq) os).cell? ⟨b8, 4, none⟩ = some (.int .i64 l1) := fun q os => (B8k).cells q os 4
      have y5 : ∀ dq os, (grow (wr.drewN dq) os).cell? ⟨b8, 5, none⟩ = some (.int .i64 0) := fun q os => (B8k).cells q os 5
      have y6 : ∀ dq os, (grow (wr.drewN dq) os).cell? ⟨b8, 6, none⟩ = some (.int .i64 0) := fun q os => (B8k).cells q os 6
      have y7 : ∀ dq os, (grow (wr.drewN dq) os).cell? ⟨b8, 7, none⟩ = some (.int .i64 W) := fun q os => (B8k).cells q os 7
      have y8 : ∀ dq os, (grow (wr.drewN dq) os).cell? ⟨b8, 8, none⟩ = some (.int .i64 H) := fun q os => (B8k).cells q os 8
      have x_0 : ∀ dq os, (grow (wr.drewN dq) os).cell? ⟨b7, 0, none⟩ = some (.bool true) := fun q os => (Bk).cells q os 0
      have x_1 : ∀ dq os, (grow (wr.drewN dq) os).cell? ⟨b7, 1, none⟩ = some (.int .i64 W) := fun q os => (Bk).cells q os 1
      have x_2 : ∀ dq os, (grow (wr.drewN dq) os).cell? ⟨b7, 2, none⟩ = some (.int .i64 H) := fun q os => (Bk).cells q os 2
      have x_3 : ∀ dq os, (grow (wr.drewN dq) os).cell? ⟨b7, 3, none⟩ = some (.slice (some ⟨rb, 0, none⟩) n n) := fun q os => (Bk).cells q os 3
      have x_4 : ∀ dq os, (grow (wr.drewN dq) os).cell? ⟨b7, 4, none⟩ = some (.int .i64 a1) := fun q os => (Bk).cells q os 4
      have x_5 : ∀ dq os, (grow (wr.drewN dq) os).cell? ⟨b7, 5, none⟩ = some (.int .i64 a2) := fun q os => (Bk).cells q os 5
      have x_6 : ∀ dq os, (grow (wr.drewN dq) os).cell? ⟨b7, 6, none⟩ = some (.int .i64 σ) := fun q os => (Bk).cells q os 6
      have x_7 : ∀ dq os, (grow (wr.drewN dq) os).cell? ⟨b7, 7, none⟩ = some (.int .i64 l1) := fun q os => (Bk).cells q os 7
      have x_8 : ∀ dq os, (grow (wr.drewN dq) os).cell? ⟨b7, 8, none⟩ = some (.int .i64 0) := fun q os => (Bk).cells q os 8
      have x_9 : ∀ dq os, (grow (wr.drewN dq) os).cell? ⟨b7, 9, none⟩ = some (.int .i64 0) := fun q os => (Bk).cells q os 9
      have x_10 : ∀ dq os, (grow (wr.drewN dq) os).cell? ⟨b7, 10, none⟩ = some (.int .i64 W) := fun q os => (Bk).cells q os 10
      have x_11 : ∀ dq os, (grow (wr.drewN dq) os).cell? ⟨b7, 11, none⟩ = some (.int .i64 H) := fun q os => (Bk).cells q os 11
      clear z6
      have z6 : wr.cell? ⟨b7, 6, none⟩ = some (.int .i64 σ) := Bk.cell 6
      go_wp2
      clear z6
      refine wp_region_quiet_grown (by kernel_rfl) (by kernel_rfl) ?_
      repeat (first | go_big_quiet_step ((go_at_call 53; exact Calls.grown (cC1 _ _))) | quiet_step ((go_at_call 53; exact Calls.grown (cC1 _ _))))
      refine wpQuiet_nil ?_
      intro W3 g9
      replace g9 : Gr _ W3 := g9
      clear cC1 cC y0 y1 y2 y3 y4 y5 y6 y7 y8 x_0 x_1 x_2 x_3 x_4 x_5 x_6 x_7 x_8 x_9 x_10 x_11 x1 x2 x3 x4 x5 x6 x7 x8 pX1 pX2 pY1 pY2 sX1 sX2 sY1 sY2 i1 i2 i3 i4 i5 i6 i7 i8 tX1 tX2 tY1 tY2 pS1 pS2
      go_wp2
      go_roundw
      case rel => exact ⟨j + 1, hlt, by simp, Gk.trans g9⟩
      case measure => simp [intOf]; omega
    · obtain rfl : j = S2 := Nat.le_antisymm hj (Nat.le_of_not_lt hlt)
      go_wp2_with fail
      refine (plives1 _).mono ?_
      rintro e w9 ⟨rfl, g9⟩
      go_wp2
      go_ret
      exact ⟨rfl, (G10.gr Gk).gr g9⟩

set_option maxRecDepth 100000 in
theorem paintScales_lifted (os : Os) (started : os.Started) (H : Type) (enc : TypeId × Value → H) :
    ReturnsInHanded {} Try.checked os 14 .any (Rows.paintScalesSpec.pre6 enc Try.prog Try.f14 Rows.paintScalesRow.domain false) (Rows.paintScalesSpec.post enc Try.prog Try.f14 false true false false) := by
  refine returnsInHanded_of_change (C := Try.checked) own started (by kernel_rfl) Try.func14
    (ChangeSpec.witness6 (enc := enc) (C := Try.checked) false ⟨#[], #[.agg #[.bool false, .int .i64 0, .int .i64 0, .slice none 0 0, .int .i64 0, .int .i64 0, .int .i64 0, .int .i64 0, .int .i64 0, .int .i64 0, .int .i64 0, .int .i64 0, .int .i64 0, .int .i64 0, .slice none 0 0], .int .i64 0], []⟩ 8 (by kernel_rfl) (by kernel_rfl) (by kernel_rfl) (by kernel_rfl)) ?_
  intro W base args ds gs before hval0 hW hcnd _
  have hval : ∀ (j : Nat) t v, Try.f14.params[j]? = some t → args[j]? = some v → Value.okWide Try.prog W .any base t v := hval0
  have hW' := hW
  obtain ⟨p, q, hA0, hV, rfl, hfz, hnd⟩ := hW
  have hA : DataW.TrodAll enc Try.prog W 0 (fun _ => true) true Try.f14.params.toList args.toList ds p := hA0
  rw [Try.params14] at hA hval
  obtain ⟨v0, vs0, d0, ds0, p0, q0, hargs, rfl, rfl, h0, r0⟩ := trodAll_cons hA
  obtain ⟨v1, vs1, d1, ds1, p1, q1, rfl, rfl, rfl, h1, r1⟩ := trodAll_cons r0
  obtain ⟨rfl, rfl, rfl⟩ := trodAll_nil r1
  obtain rfl : args = #[v0, v1] := by cases args; simp_all
  obtain ⟨rfl, rfl⟩ := trodVars_none hV
  obtain ⟨sm0, W00, H00, A00, n00, c00, ax0, ay0, s0, al0, cp0, cw0, ch0, A0, c0, L0, rfl, hK0, hc0, hm0, hr0, hI0⟩ := open_case (hval 0 78 v0 rfl rfl) h0
  obtain ⟨n1, rfl, rfl, rfl, un1⟩ := open_int Try.underlying3 (hval 1 3 v1 rfl rfl) h1
  have wn1 := I64.of_wf un1
  clear hA0 hval0
  simp only [List.append_nil] at hW'
  have hlt := hW'.lt
  refine (pscales_walk sm0 W00 H00 A00 n00 c00 ax0 ay0 s0 al0 cp0 cw0 ch0 A0 c0 L0 n1 W hK0 hc0 hm0 hr0 hI0 wn1).mono fun e W' ⟨he, hb⟩ => ?_
  subst he
  exact ⟨_, rfl, close_below (pa := p0) (pv := []) hW' (fun _ _ _ => (trodAll_cons_mk (shut_bool Try.underlying4 _) trodAll_mk0)) (fun sp hsp => by
      have := (trodAll_cons_mk (WideElems.Trod_stays laidOut (by kernel_rfl) (of_decide_eq_true (by kernel_rfl)) h0 (fun x hx => Below.same hb (hlt x (by simp [hx]))) (sp' := sp) (fun x hx => hsp x (by simp [hx]))) (trodAll_cons_mk (shut_int Try.underlying3 un1) trodAll_mk0))
      simp only [List.append_nil] at this
      exact this)
    (fun _ _ => rfl) (by simp) hb (ok_one (by kernel_rfl) rfl (okWide_bool_mk Try.underlying4 _))⟩

theorem paintScales_holds : Rows.PaintScalesSaid :=
  OpenClaim.holds_of_wide 14 Try.f14 rfl rfl rfl rfl rfl rfl rfl ⟨rfl, rfl, rfl, rfl, rfl⟩ rfl rfl rfl rfl rfl (by kernel_rfl) Try.func14 (by kernel_rfl)
    (of_decide_eq_true (by kernel_rfl)) (by unfold Func.isWrapper; first | (rw [if_pos (by decide +kernel)]; kernel_rfl) | (rw [if_neg (by decide +kernel)]; exact ⟨rfl, rfl⟩))
    (fun os started H enc _ => paintScales_lifted os started H enc)

#print axioms paintScales_holds

end Go.Proofs.Ytleamlecjojfdaa
