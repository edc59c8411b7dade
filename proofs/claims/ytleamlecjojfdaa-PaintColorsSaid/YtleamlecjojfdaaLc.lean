/-
  What is proved: the statement PaintColors: a layer's color at a point is the document's. No conditions.
-/
import Derived.Test.YtleamlecjojfdaaZm
namespace Go.Proofs.Ytleamlecjojfdaa
open Go.ChangeShapes Go.WideShapes Go.ChangeAt Go.RowKit Go.Joins Go.Sort Go.Deep

attribute [local go_sem ↓] run_min2 run_max2

set_option maxRecDepth 100000 in
set_option maxHeartbeats 4000000 in
theorem pcolors_walk (sm : Bool) (W0 H0 : Int) (A0 : Option Addr) (n0 c0 : Nat) (ax ay s al : Int) (cp : Rc) (cw ch : Int) (A : Option Addr) (cap : Nat) (L : List Int) (x y : Int) (w : World) (hK : KOk ax ay s al cp cw ch) (hlc : L.length ≤ cap) (hcm : cap ≤ maxLen) (hA : Ns .u32 w A L) (h32 : ∀ c ∈ L, C32 c) (hx : I64 x) (hy : I64 y) :
    Calls Try.prog 10 #[.agg #[.bool sm, .int .i64 W0, .int .i64 H0, .slice A0 n0 c0, .int .i64 ax, .int .i64 ay, .int .i64 s, .int .i64 al, .int .i64 cp.a, .int .i64 cp.b, .int .i64 cp.c, .int .i64 cp.d, .int .i64 cw, .int .i64 ch, .slice A L.length cap], .int .i64 x, .int .i64 y] w (fun e w' => e = .returned (.bool true) ∧ Bl w w') := by
  have G := (Gr.refl w).alloc (.cells #[.bool sm, .int .i64 W0, .int .i64 H0, .slice A0 n0 c0, .int .i64 ax, .int .i64 ay, .int .i64 s, .int .i64 al, .int .i64 cp.a, .int .i64 cp.b, .int .i64 cp.c, .int .i64 cp.d, .int .i64 cw, .int .i64 ch, .slice A L.length cap] 78)
  have cg := kgood1 sm W0 H0 A0 n0 c0 ax ay s al cp cw ch A cap L _ hK hlc hcm (hA.bl G.bl) h32
  have c50 := fun w => around1 x 50 w hx (by omega)
  have c51 := fun w => around1 y 50 w hy (by omega)
  obtain ⟨u1, u2⟩ := around_bd x 50 (by omega)
  obtain ⟨u3, u4⟩ := around_bd y 50 (by omega)
  generalize around x 50 = rx at *
  generalize around y 50 = ry at *
  have m1 : -1048576 ≤ min (max x (-1048576)) 1048576 ∧ min (max x (-1048576)) 1048576 ≤ 1048576 := by omega
  have m2 : -1048576 ≤ min (max y (-1048576)) 1048576 ∧ min (max y (-1048576)) 1048576 ≤ 1048576 := by omega
  obtain ⟨mx, hmx⟩ : ∃ m, m = min (max x (-1048576)) 1048576 := ⟨_, rfl⟩
  obtain ⟨my, hmy⟩ : ∃ m, m = min (max y (-1048576)) 1048576 := ⟨_, rfl⟩
  rw [← hmx] at m1
  rw [← hmy] at m2
  replace hmx := hmx.symm
  replace hmy := hmy.symm
  clear h32 hlc hcm hA hK hx hy
  generalize L.length = la at *
  go_enter Try.func10, Try.ntmps10
  go_wp2_with fail
  refine cg.mono ?_
  rintro e v1 ⟨W, H, n, F, a1, a2, s1, l1, rb, hG, rfl, C1, hb1, g1⟩
  replace G := G.bl.trans g1
  clear g1 cg hb1
  have B7 := At.new v1 #[.bool true, .int .i64 W, .int .i64 H, .slice (some ⟨rb, 0, none⟩) n n, .int .i64 a1, .int .i64 a2, .int .i64 s1, .int .i64 l1, .int .i64 cp.a, .int .i64 cp.b, .int .i64 cp.c, .int .i64 cp.d] 76
  replace C1 := C1.alloc (.cells #[.bool true, .int .i64 W, .int .i64 H, .slice (some ⟨rb, 0, none⟩) n n, .int .i64 a1, .int .i64 a2, .int .i64 s1, .int .i64 l1, .int .i64 cp.a, .int .i64 cp.b, .int .i64 cp.c, .int .i64 cp.d] 76)
  replace G := G.alloc (.cells #[.bool true, .int .i64 W, .int .i64 H, .slice (some ⟨rb, 0, none⟩) n n, .int .i64 a1, .int .i64 a2, .int .i64 s1, .int .i64 l1, .int .i64 cp.a, .int .i64 cp.b, .int .i64 cp.c, .int .i64 cp.d] 76)
  have cl := fun (w : World) (h : RowN .u32 w rb 0 F) => layer1 (rc := n) (n := n) a1 a2 s1 l1 cp w h hG.len.symm (hG.len.trans hG.hn) hG.w1 (by have := hG.w2; omega) hG.h1 (by have := hG.h2; omega) hG.may
  go_wp2_with fail
  refine (cl _ C1.rowC).mono ?_
  rintro e v2 ⟨pm, pc, rfl, I2, hpm, hpc, g2⟩
  replace B7 := B7.bl g2
  replace C1 := C1.bl g2
  replace G := G.trans g2
  clear hpm hpc g2 cl
  generalize v1.heap.size = b7 at B7 ⊢
  have B8 := At.new v2 #[.pointer (some ⟨pm, 0, none⟩), .int .i64 a1, .int .i64 a2, .int .i64 s1, .int .i64 l1, .int .i64 cp.a, .int .i64 cp.b, .int .i64 cp.c, .int .i64 cp.d] 82
  replace B7 := B7.alloc (.cells #[.pointer (some ⟨pm, 0, none⟩), .int .i64 a1, .int .i64 a2, .int .i64 s1, .int .i64 l1, .int .i64 cp.a, .int .i64 cp.b, .int .i64 cp.c, .int .i64 cp.d] 82)
  replace C1 := C1.alloc (.cells #[.pointer (some ⟨pm, 0, none⟩), .int .i64 a1, .int .i64 a2, .int .i64 s1, .int .i64 l1, .int .i64 cp.a, .int .i64 cp.b, .int .i64 cp.c, .int .i64 cp.d] 82)
  replace I2 := I2.gr ((Gr.refl v2).alloc (.cells #[.pointer (some ⟨pm, 0, none⟩), .int .i64 a1, .int .i64 a2, .int .i64 s1, .int .i64 l1, .int .i64 cp.a, .int .i64 cp.b, .int .i64 cp.c, .int .i64 cp.d] 82))
  replace G := G.alloc (.cells #[.pointer (some ⟨pm, 0, none⟩), .int .i64 a1, .int .i64 a2, .int .i64 s1, .int .i64 l1, .int .i64 cp.a, .int .i64 cp.b, .int .i64 cp.c, .int .i64 cp.d] 82)
  go_wp2_with fail
  refine (c50 _).mono ?_
  rintro e v ⟨rfl, rfl⟩
  go_wp2_with fail
  refine (c51 _).mono ?_
  rintro e v ⟨rfl, rfl⟩
  go_wp2_with fail
  have X9 := (At.newAt (w := v2.alloc (.cells #[.pointer (some ⟨pm, 0, none⟩), .int .i64 a1, .int .i64 a2, .int .i64 s1, .int .i64 l1, .int .i64 cp.a, .int .i64 cp.b, .int .i64 cp.c, .int .i64 cp.d] 82)) (n := v2.heap.size + 1) (by simp) #[.int .i64 mx, .int .i64 (rx - 10)] 3).alloc (.cells #[.int .i64 my, .int .i64 (ry - 10)] 3)
  have Y9 := At.newAt (w := (v2.alloc (.cells #[.pointer (some ⟨pm, 0, none⟩), .int .i64 a1, .int .i64 a2, .int .i64 s1, .int .i64 l1, .int .i64 cp.a, .int .i64 cp.b, .int .i64 cp.c, .int .i64 cp.d] 82)).alloc (.cells #[.int .i64 mx, .int .i64 (rx - 10)] 3)) (n := v2.heap.size + 1 + 1) (by simp) #[.int .i64 my, .int .i64 (ry - 10)] 3
  replace B7 := (B7.alloc (.cells #[.int .i64 mx, .int .i64 (rx - 10)] 3)).alloc (.cells #[.int .i64 my, .int .i64 (ry - 10)] 3)
  replace B8 := (B8.alloc (.cells #[.int .i64 mx, .int .i64 (rx - 10)] 3)).alloc (.cells #[.int .i64 my, .int .i64 (ry - 10)] 3)
  replace C1 := (C1.alloc (.cells #[.int .i64 mx, .int .i64 (rx - 10)] 3)).alloc (.cells #[.int .i64 my, .int .i64 (ry - 10)] 3)
  replace I2 := I2.gr (((Gr.refl _).alloc (.cells #[.int .i64 mx, .int .i64 (rx - 10)] 3)).alloc (.cells #[.int .i64 my, .int .i64 (ry - 10)] 3))
  replace G := (G.alloc (.cells #[.int .i64 mx, .int .i64 (rx - 10)] 3)).alloc (.cells #[.int .i64 my, .int .i64 (ry - 10)] 3)
  obtain ⟨U, hU⟩ : ∃ U, U = ((v2.alloc (.cells #[.pointer (some ⟨pm, 0, none⟩), .int .i64 a1, .int .i64 a2, .int .i64 s1, .int .i64 l1, .int .i64 cp.a, .int .i64 cp.b, .int .i64 cp.c, .int .i64 cp.d] 82)).alloc (.cells #[.int .i64 mx, .int .i64 (rx - 10)] 3)).alloc (.cells #[.int .i64 my, .int .i64 (ry - 10)] 3) := ⟨_, rfl⟩
  rw [← hU] at X9 Y9 B7 B8 C1 I2 G ⊢
  clear hU c50 c51
  generalize v2.heap.size + 1 + 1 = by_ at *
  generalize v2.heap.size + 1 = bx at *
  generalize v2.heap.size = b8 at *
  have hFar : ∀ z : Int, (z = mx ∨ z = rx - 10 ∨ z = my ∨ z = ry - 10 ∨ z = a1 ∨ z = a2) → Far z := by
    have h1 := hG.b1; have h2 := hG.b2
    intro z hz; unfold Far; omega
  clear hmx hmy m1 m2 u1 u2 u3 u4
  go_loopw [11] (fun i wr => ∃ k : Nat, k ≤ 2 ∧ i = .int .i64 k ∧ Gr U wr) (fun i _ => 2 - (intOf i).toNat)
  case atStart => exact ⟨0, by omega, rfl, Gr.refl _⟩
  case round =>
    obtain ⟨k, hk, rfl, Gk⟩ := hrel
    by_cases hlt : k < 2
    · have hp : ∃ p q : Int, (∀ wr', Gr U wr' → wr'.cell? ⟨bx, k, none⟩ = some (.int .i64 p) ∧ wr'.cell? ⟨by_, k, none⟩ = some (.int .i64 q)) ∧ Far p ∧ Far q := by
        obtain rfl | rfl : k = 0 ∨ k = 1 := by omega
        · exact ⟨mx, my, fun wr' g => ⟨(X9.gr g).cell 0, (Y9.gr g).cell 0⟩, hFar _ (by simp), hFar _ (by simp)⟩
        · exact ⟨rx - 10, ry - 10, fun wr' g => ⟨(X9.gr g).cell 1, (Y9.gr g).cell 1⟩, hFar _ (by simp), hFar _ (by simp)⟩
      obtain ⟨p, q, hpq, fp, fq⟩ := hp
      have f1 := hFar a1 (by simp)
      have f2 := hFar a2 (by simp)
      have w16 := hG.w2
      have h16 := hG.h2
      have hs := hG.b3
      have cC := fun (w' : World) (g : Gr U w') => pcolor1 a1 a2 s1 l1 cp p q w' (I2.gr g).x hG.c32 hs.1 (by omega) fp fq f1 f2 (fun w'' g' => pbox1 a1 a2 s1 l1 cp w'' ((I2.gr g).gr g') hG.ly)
      have cR := fun (w' : World) (g : Gr U w') => rcolor1 (rc := n) (al := l1) n hG.len.symm a1 a2 s1 cp true p q w' ((C1.gr g).rowC) (hG.len.trans hG.hn) hG.c32 (by omega) (by omega) hs.1 (by omega) fp fq f1 f2
      have cB := fun (w' : World) => rbox1 W H (some ⟨rb, 0, none⟩) n n true a1 a2 s1 l1 cp w' (by omega) (by omega) hs.1 (by omega) (by have := hG.b1; unfold Bd; omega) (by have := hG.b2; unfold Bd; omega)
      have cH := fun w' => refhas1 (lyBox cp W H s1 a1 a2).a (lyBox cp W H s1 a1 a2).b (lyBox cp W H s1 a1 a2).c (lyBox cp W H s1 a1 a2).d p q w'
      rw [lyBox_has hs.1] at cH
      generalize lyCol cp W H F s1 a1 a2 l1 p q = cq at *
      generalize lyHas cp W H s1 a1 a2 p q = hh at *
      generalize lyBox cp W H s1 a1 a2 = bx4 at *
      obtain ⟨x1, x2, x3, x4⟩ := bx4
      dsimp only at cB cH
      have B8k := B8.gr Gk
      have B7k := B7.gr Gk
      have y0 : ∀ dq os, (grow (wr.drewN dq) os).cell? ⟨b8, 0, none⟩ = some (.pointer (some ⟨pm, 0, none⟩)) := fun q os => (B8k).cells q os 0
      have y1 : ∀ dq os, (grow (wr.drewN dq) os).cell? ⟨b8, 1, none⟩ = some (.int .i64 a1) := fun q os => (B8k).cells q os 1
      have y2 : ∀ dq os, (grow (wr.drewN dq) os).cell? ⟨b8, 2, none⟩ = some (.int .i64 a2) := fun q os => (B8k).cells q os 2
      have y3 : ∀ dq os, (grow (wr.drewN dq) os).cell? ⟨b8, 3, none⟩ = some (.int .i64 s1) := fun q os => (B8k).cells q os 3
      have y4 : ∀ dq os, (grow (wr.drewN dq) os).cell? ⟨b8, 4, none⟩ = some (.int .i64 l1) := fun q os => (B8k).cells q os 4
      have y5 : ∀ dq os, (grow (wr.drewN dq) os).cell? ⟨b8, 5, none⟩ = some (.int .i64 cp.a) := fun q os => (B8k).cells q os 5
      have y6 : ∀ dq os, (grow (wr.drewN dq) os).cell? ⟨b8, 6, none⟩ = some (.int .i64 cp.b) := fun q os => (B8k).cells q os 6
      have y7 : ∀ dq os, (grow (wr.drewN dq) os).cell? ⟨b8, 7, none⟩ = some (.int .i64 cp.c) := fun q os => (B8k).cells q os 7
      have y8 : ∀ dq os, (grow (wr.drewN dq) os).cell? ⟨b8, 8, none⟩ = some (.int .i64 cp.d) := fun q os => (B8k).cells q os 8
      have r0 : ∀ n os, (grow (wr.drewN n) os).cell? ⟨bx, k, none⟩ = some (.int .i64 p) := fun q os => (hpq _ (Gk.trans (((Gr.refl wr).drewN q).grow os))).1
      have r1 : ∀ n os, (grow (wr.drewN n) os).cell? ⟨by_, k, none⟩ = some (.int .i64 q) := fun q os => (hpq _ (Gk.trans (((Gr.refl wr).drewN q).grow os))).2
      have cC1 := fun q os => cC _ (Gk.trans (((Gr.refl wr).drewN q).grow os))
      go_wp2
      refine wp_region_quiet_grown (by kernel_rfl) (by kernel_rfl) ?_
      repeat (first | go_big_quiet_step ((go_at_call 53; exact Calls.grown (cC1 _ _))) | quiet_step ((go_at_call 53; exact Calls.grown (cC1 _ _))))
      refine wpQuiet_nil ?_
      intro W2 g8
      replace g8 : Gr _ W2 := g8
      have Gk2 := Gk.trans g8
      clear r0 r1 cC1 y0 y1 y2 y3 y4 y5 y6 y7 y8
      replace B7k := B7k.gr g8
      have y0 : ∀ dq os, (grow (W2.drewN dq) os).cell? ⟨b7, 0, none⟩ = some (.bool true) := fun q os => (B7k).cells q os 0
      have y1 : ∀ dq os, (grow (W2.drewN dq) os).cell? ⟨b7, 1, none⟩ = some (.int .i64 W) := fun q os => (B7k).cells q os 1
      have y2 : ∀ dq os, (grow (W2.drewN dq) os).cell? ⟨b7, 2, none⟩ = some (.int .i64 H) := fun q os => (B7k).cells q os 2
      have y3 : ∀ dq os, (grow (W2.drewN dq) os).cell? ⟨b7, 3, none⟩ = some (.slice (some ⟨rb, 0, none⟩) n n) := fun q os => (B7k).cells q os 3
      have y4 : ∀ dq os, (grow (W2.drewN dq) os).cell? ⟨b7, 4, none⟩ = some (.int .i64 a1) := fun q os => (B7k).cells q os 4
      have y5 : ∀ dq os, (grow (W2.drewN dq) os).cell? ⟨b7, 5, none⟩ = some (.int .i64 a2) := fun q os => (B7k).cells q os 5
      have y6 : ∀ dq os, (grow (W2.drewN dq) os).cell? ⟨b7, 6, none⟩ = some (.int .i64 s1) := fun q os => (B7k).cells q os 6
      have y7 : ∀ dq os, (grow (W2.drewN dq) os).cell? ⟨b7, 7, none⟩ = some (.int .i64 l1) := fun q os => (B7k).cells q os 7
      have y8 : ∀ dq os, (grow (W2.drewN dq) os).cell? ⟨b7, 8, none⟩ = some (.int .i64 cp.a) := fun q os => (B7k).cells q os 8
      have y9 : ∀ dq os, (grow (W2.drewN dq) os).cell? ⟨b7, 9, none⟩ = some (.int .i64 cp.b) := fun q os => (B7k).cells q os 9
      have y10 : ∀ dq os, (grow (W2.drewN dq) os).cell? ⟨b7, 10, none⟩ = some (.int .i64 cp.c) := fun q os => (B7k).cells q os 10
      have y11 : ∀ dq os, (grow (W2.drewN dq) os).cell? ⟨b7, 11, none⟩ = some (.int .i64 cp.d) := fun q os => (B7k).cells q os 11
      have r0 : ∀ n os, (grow (W2.drewN n) os).cell? ⟨bx, k, none⟩ = some (.int .i64 p) := fun q os => (hpq _ (Gk2.trans (((Gr.refl W2).drewN q).grow os))).1
      have r1 : ∀ n os, (grow (W2.drewN n) os).cell? ⟨by_, k, none⟩ = some (.int .i64 q) := fun q os => (hpq _ (Gk2.trans (((Gr.refl W2).drewN q).grow os))).2
      have cR1 := fun q os => cR _ (Gk2.trans (((Gr.refl W2).drewN q).grow os))
      go_wp2
      refine wp_region_quiet_grown (by kernel_rfl) (by kernel_rfl) ?_
      repeat (first | go_big_quiet_step ((go_at_call 54; exact Calls.grown (cR1 _ _))) | quiet_step ((go_at_call 54; exact Calls.grown (cR1 _ _))))
      refine wpQuiet_nil ?_
      intro W3 g9
      replace g9 : Gr _ W3 := g9
      have Gk3 := Gk2.trans g9
      clear r0 r1 cR1 y0 y1 y2 y3 y4 y5 y6 y7 y8 y9 y10 y11
      replace B7k := B7k.gr g9
      have y0 : ∀ dq os, (grow (W3.drewN dq) os).cell? ⟨b7, 0, none⟩ = some (.bool true) := fun q os => (B7k).cells q os 0
      have y1 : ∀ dq os, (grow (W3.drewN dq) os).cell? ⟨b7, 1, none⟩ = some (.int .i64 W) := fun q os => (B7k).cells q os 1
      have y2 : ∀ dq os, (grow (W3.drewN dq) os).cell? ⟨b7, 2, none⟩ = some (.int .i64 H) := fun q os => (B7k).cells q os 2
      have y3 : ∀ dq os, (grow (W3.drewN dq) os).cell? ⟨b7, 3, none⟩ = some (.slice (some ⟨rb, 0, none⟩) n n) := fun q os => (B7k).cells q os 3
      have y4 : ∀ dq os, (grow (W3.drewN dq) os).cell? ⟨b7, 4, none⟩ = some (.int .i64 a1) := fun q os => (B7k).cells q os 4
      have y5 : ∀ dq os, (grow (W3.drewN dq) os).cell? ⟨b7, 5, none⟩ = some (.int .i64 a2) := fun q os => (B7k).cells q os 5
      have y6 : ∀ dq os, (grow (W3.drewN dq) os).cell? ⟨b7, 6, none⟩ = some (.int .i64 s1) := fun q os => (B7k).cells q os 6
      have y7 : ∀ dq os, (grow (W3.drewN dq) os).cell? ⟨b7, 7, none⟩ = some (.int .i64 l1) := fun q os => (B7k).cells q os 7
      have y8 : ∀ dq os, (grow (W3.drewN dq) os).cell? ⟨b7, 8, none⟩ = some (.int .i64 cp.a) := fun q os => (B7k).cells q os 8
      have y9 : ∀ dq os, (grow (W3.drewN dq) os).cell? ⟨b7, 9, none⟩ = some (.int .i64 cp.b) := fun q os => (B7k).cells q os 9
      have y10 : ∀ dq os, (grow (W3.drewN dq) os).cell? ⟨b7, 10, none⟩ = some (.int .i64 cp.c) := fun q os => (B7k).cells q os 10
      have y11 : ∀ dq os, (grow (W3.drewN dq) os).cell? ⟨b7, 11, none⟩ = some (.int .i64 cp.d) := fun q os => (B7k).cells q os 11
      have r0 : ∀ n os, (grow (W3.drewN n) os).cell? ⟨bx, k, none⟩ = some (.int .i64 p) := fun q os => (hpq _ (Gk3.trans (((Gr.refl W3).drewN q).grow os))).1
      have r1 : ∀ n os, (grow (W3.drewN n) os).cell? ⟨by_, k, none⟩ = some (.int .i64 q) := fun q os => (hpq _ (Gk3.trans (((Gr.refl W3).drewN q).grow os))).2
      go_wp2
      refine wp_region_quiet_grown (by kernel_rfl) (by kernel_rfl) ?_
      repeat (first | go_big_quiet_step (first | (go_at_call 51; exact Calls.grown (cB _)) | (go_at_call 55; exact Calls.grown (cH _))) | quiet_step (first | (go_at_call 51; exact Calls.grown (cB _)) | (go_at_call 55; exact Calls.grown (cH _))))
      refine wpQuiet_nil ?_
      intro W4 g10
      replace g10 : Gr _ W4 := g10
      clear r0 r1 y0 y1 y2 y3 y4 y5 y6 y7 y8 y9 y10 y11
      go_wp2
      go_roundw
      case rel => exact ⟨k + 1, by omega, by simp, Gk3.trans g10⟩
      case measure => simp [intOf]; omega
    · obtain rfl : k = 2 := by omega
      go_wp2_with fail
      refine (plives1 _).mono ?_
      rintro e w9 ⟨rfl, g9⟩
      go_wp2
      go_ret
      exact ⟨rfl, (G.gr Gk).gr g9⟩

set_option maxRecDepth 100000 in
theorem paintColors_lifted (os : Os) (started : os.Started) (H : Type) (enc : TypeId × Value → H) :
    ReturnsInHanded {} Try.checked os 10 .any (Rows.paintColorsSpec.pre6 enc Try.prog Try.f10 Rows.paintColorsRow.domain false) (Rows.paintColorsSpec.post enc Try.prog Try.f10 false true false false) := by
  refine returnsInHanded_of_change (C := Try.checked) own started (by kernel_rfl) Try.func10
    (ChangeSpec.witness6 (enc := enc) (C := Try.checked) false ⟨#[], #[.agg #[.bool false, .int .i64 0, .int .i64 0, .slice none 0 0, .int .i64 0, .int .i64 0, .int .i64 0, .int .i64 0, .int .i64 0, .int .i64 0, .int .i64 0, .int .i64 0, .int .i64 0, .int .i64 0, .slice none 0 0], .int .i64 0, .int .i64 0], []⟩ 8 (by kernel_rfl) (by kernel_rfl) (by kernel_rfl) (by kernel_rfl)) ?_
  intro W base args ds gs before hval0 hW hcnd _
  have hval : ∀ (j : Nat) t v, Try.f10.params[j]? = some t → args[j]? = some v → Value.okWide Try.prog W .any base t v := hval0
  have hW' := hW
  obtain ⟨p, q, hA0, hV, rfl, hfz, hnd⟩ := hW
  have hA : DataW.TrodAll enc Try.prog W 0 (fun _ => true) true Try.f10.params.toList args.toList ds p := hA0
  rw [Try.params10] at hA hval
  obtain ⟨v0, vs0, d0, ds0, p0, q0, hargs, rfl, rfl, h0, r0⟩ := trodAll_cons hA
  obtain ⟨v1, vs1, d1, ds1, p1, q1, rfl, rfl, rfl, h1, r1⟩ := trodAll_cons r0
  obtain ⟨v2, vs2, d2, ds2, p2, q2, rfl, rfl, rfl, h2, r2⟩ := trodAll_cons r1
  obtain ⟨rfl, rfl, rfl⟩ := trodAll_nil r2
  obtain rfl : args = #[v0, v1, v2] := by cases args; simp_all
  obtain ⟨rfl, rfl⟩ := trodVars_none hV
  obtain ⟨sm0, W00, H00, A00, n00, c00, ax0, ay0, s0, al0, cp0, cw0, ch0, A0, c0, L0, rfl, hK0, hc0, hm0, hr0, hI0⟩ := open_case (hval 0 78 v0 rfl rfl) h0
  obtain ⟨n1, rfl, rfl, rfl, un1⟩ := open_int Try.underlying3 (hval 1 3 v1 rfl rfl) h1
  have wn1 := I64.of_wf un1
  obtain ⟨n2, rfl, rfl, rfl, un2⟩ := open_int Try.underlying3 (hval 2 3 v2 rfl rfl) h2
  have wn2 := I64.of_wf un2
  clear hA0 hval0
  simp only [List.append_nil] at hW'
  have hlt := hW'.lt
  refine (pcolors_walk sm0 W00 H00 A00 n00 c00 ax0 ay0 s0 al0 cp0 cw0 ch0 A0 c0 L0 n1 n2 W hK0 hc0 hm0 hr0 hI0 wn1 wn2).mono fun e W' ⟨he, hb⟩ => ?_
  subst he
  exact ⟨_, rfl, close_below (pa := p0) (pv := []) hW' (fun _ _ _ => (trodAll_cons_mk (shut_bool Try.underlying4 _) trodAll_mk0)) (fun sp hsp => by
      have := (trodAll_cons_mk (WideElems.Trod_stays laidOut (by kernel_rfl) (of_decide_eq_true (by kernel_rfl)) h0 (fun x hx => Below.same hb (hlt x (by simp [hx]))) (sp' := sp) (fun x hx => hsp x (by simp [hx]))) (trodAll_cons_mk (shut_int Try.underlying3 un1) (trodAll_cons_mk (shut_int Try.underlying3 un2) trodAll_mk0)))
      simp only [List.append_nil] at this
      exact this)
    (fun _ _ => rfl) (by simp) hb (ok_one (by kernel_rfl) rfl (okWide_bool_mk Try.underlying4 _))⟩

theorem paintColors_holds : Rows.PaintColorsSaid :=
  OpenClaim.holds_of_wide 10 Try.f10 rfl rfl rfl rfl rfl rfl rfl ⟨rfl, rfl, rfl, rfl, rfl⟩ rfl rfl rfl rfl rfl (by kernel_rfl) Try.func10 (by kernel_rfl)
    (of_decide_eq_true (by kernel_rfl)) (by unfold Func.isWrapper; first | (rw [if_pos (by decide +kernel)]; kernel_rfl) | (rw [if_neg (by decide +kernel)]; exact ⟨rfl, rfl⟩))
    (fun os started H enc _ => paintColors_lifted os started H enc)

#print axioms paintColors_holds

end Go.Proofs.Ytleamlecjojfdaa
