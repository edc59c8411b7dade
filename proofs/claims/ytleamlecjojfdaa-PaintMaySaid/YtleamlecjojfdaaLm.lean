/-
  What is proved: the statement PaintMay: which layers may be is told as the document says. No conditions.
-/
import Derived.Test.YtleamlecjojfdaaZm
import Derived.Deep.RegionHeld3
namespace Go.Proofs.Ytleamlecjojfdaa
open Go.ChangeShapes Go.WideShapes Go.ChangeAt Go.RowKit Go.Joins Go.Sort Go.Deep

set_option maxRecDepth 100000 in
set_option maxHeartbeats 8000000 in
theorem pmay_walk (sm : Bool) (W0 H0 : Int) (A0 : Option Addr) (n0 c0 : Nat) (ax ay s al : Int) (cp : Rc) (cw ch : Int) (A : Option Addr) (cap : Nat) (L : List Int) (w : World) (hK : KOk ax ay s al cp cw ch) (hlc : L.length ≤ cap) (hcm : cap ≤ maxLen) (hA : Ns .u32 w A L) (h32 : ∀ c ∈ L, C32 c) :
    Calls Try.prog 9 #[.agg #[.bool sm, .int .i64 W0, .int .i64 H0, .slice A0 n0 c0, .int .i64 ax, .int .i64 ay, .int .i64 s, .int .i64 al, .int .i64 cp.a, .int .i64 cp.b, .int .i64 cp.c, .int .i64 cp.d, .int .i64 cw, .int .i64 ch, .slice A L.length cap]] w (fun e w' => e = .returned (.bool true) ∧ Bl w w') := by
  have G := ((Gr.refl w).alloc (.cells #[.bool sm, .int .i64 W0, .int .i64 H0, .slice A0 n0 c0, .int .i64 ax, .int .i64 ay, .int .i64 s, .int .i64 al, .int .i64 cp.a, .int .i64 cp.b, .int .i64 cp.c, .int .i64 cp.d, .int .i64 cw, .int .i64 ch, .slice A L.length cap] 78)).alloc (.cells #[.bool sm, .int .i64 W0, .int .i64 H0, .slice A0 n0 c0, .int .i64 ax, .int .i64 ay, .int .i64 s, .int .i64 al, .int .i64 cp.a, .int .i64 cp.b, .int .i64 cp.c, .int .i64 cp.d] 76)
  have B3 := At.newAt (w := w.alloc (.cells #[.bool sm, .int .i64 W0, .int .i64 H0, .slice A0 n0 c0, .int .i64 ax, .int .i64 ay, .int .i64 s, .int .i64 al, .int .i64 cp.a, .int .i64 cp.b, .int .i64 cp.c, .int .i64 cp.d, .int .i64 cw, .int .i64 ch, .slice A L.length cap] 78)) (n := w.heap.size + 1) (by simp) #[.bool sm, .int .i64 W0, .int .i64 H0, .slice A0 n0 c0, .int .i64 ax, .int .i64 ay, .int .i64 s, .int .i64 al, .int .i64 cp.a, .int .i64 cp.b, .int .i64 cp.c, .int .i64 cp.d] 76
  have cg := kgood1 sm W0 H0 A0 n0 c0 ax ay s al cp cw ch A cap L _ hK hlc hcm (hA.bl G.bl) h32
  have hax := hK.ax
  have hay := hK.ay
  have hs := hK.s
  have h2 : -300 < al.tmod 300 ∧ al.tmod 300 < 300 := by
    rcases Int.lt_or_le al 0 with h | h
    · have h4 : (-al).tmod 300 = (-al) % 300 := Int.tmod_eq_emod_of_nonneg (by omega)
      have h3 := Int.neg_tmod (-al) 300
      rw [Int.neg_neg] at h3
      rw [h3, h4]; omega
    · rw [Int.tmod_eq_emod_of_nonneg h]; omega
  obtain ⟨l2, hl2⟩ : ∃ l2, l2 = al.tmod 300 := ⟨_, rfl⟩
  rw [← hl2] at h2
  have e1 : IntKind.i64.wrap (al.tmod 300) = l2 := by rw [← hl2]; exact IntWalk.i64_in _ (by omega)
  have e2 : al.tmod 300 = l2 := hl2.symm
  clear h32 hlc hcm hA hK hl2
  generalize L.length = la at *
  have mixed : Try.prog.follows .mixedOrders = true := by kernel_rfl
  go_enter Try.func9, Try.ntmps9
  go_wp2_with fail
  refine cg.mono ?_
  rintro e v1 ⟨W, H, n, F, a1, a2, s1, l1, rb, hG, rfl, C1, hb1, g1⟩
  replace G := G.bl.trans g1
  replace B3 := B3.bl g1
  simp at hb1
  clear g1 cg
  have B4 := At.new v1 #[.bool true, .int .i64 W, .int .i64 H, .slice (some ⟨rb, 0, none⟩) n n, .int .i64 a1, .int .i64 a2, .int .i64 s1, .int .i64 l1, .int .i64 cp.a, .int .i64 cp.b, .int .i64 cp.c, .int .i64 cp.d] 76
  have hlt3 := B3.lt
  have hltc := C1.lt
  replace B3 := B3.alloc (.cells #[.bool true, .int .i64 W, .int .i64 H, .slice (some ⟨rb, 0, none⟩) n n, .int .i64 a1, .int .i64 a2, .int .i64 s1, .int .i64 l1, .int .i64 cp.a, .int .i64 cp.b, .int .i64 cp.c, .int .i64 cp.d] 76)
  replace C1 := C1.alloc (.cells #[.bool true, .int .i64 W, .int .i64 H, .slice (some ⟨rb, 0, none⟩) n n, .int .i64 a1, .int .i64 a2, .int .i64 s1, .int .i64 l1, .int .i64 cp.a, .int .i64 cp.b, .int .i64 cp.c, .int .i64 cp.d] 76)
  replace G := G.alloc (.cells #[.bool true, .int .i64 W, .int .i64 H, .slice (some ⟨rb, 0, none⟩) n n, .int .i64 a1, .int .i64 a2, .int .i64 s1, .int .i64 l1, .int .i64 cp.a, .int .i64 cp.b, .int .i64 cp.c, .int .i64 cp.d] 76)
  obtain ⟨b3, hb3⟩ : ∃ b, b = w.heap.size + 1 := ⟨_, rfl⟩
  obtain ⟨b4, hb4⟩ : ∃ b, b = v1.heap.size := ⟨_, rfl⟩
  have n34 : ¬ b4 = b3 := by omega
  have nrc : ¬ rb = b3 := by omega
  have hw3 : w.heap.size ≤ b3 := by omega
  have q1 : (v1.alloc (.cells #[.bool true, .int .i64 W, .int .i64 H, .slice (some ⟨rb, 0, none⟩) n n, .int .i64 a1, .int .i64 a2, .int .i64 s1, .int .i64 l1, .int .i64 cp.a, .int .i64 cp.b, .int .i64 cp.c, .int .i64 cp.d] 76)).cell? ⟨w.heap.size + 1, 1, none⟩ = some (.int .i64 W0) := B3.cell 1
  have q2 : (v1.alloc (.cells #[.bool true, .int .i64 W, .int .i64 H, .slice (some ⟨rb, 0, none⟩) n n, .int .i64 a1, .int .i64 a2, .int .i64 s1, .int .i64 l1, .int .i64 cp.a, .int .i64 cp.b, .int .i64 cp.c, .int .i64 cp.d] 76)).cell? ⟨w.heap.size + 1, 2, none⟩ = some (.int .i64 H0) := B3.cell 2
  have q3 : (v1.alloc (.cells #[.bool true, .int .i64 W, .int .i64 H, .slice (some ⟨rb, 0, none⟩) n n, .int .i64 a1, .int .i64 a2, .int .i64 s1, .int .i64 l1, .int .i64 cp.a, .int .i64 cp.b, .int .i64 cp.c, .int .i64 cp.d] 76)).cell? ⟨w.heap.size + 1, 3, none⟩ = some (.slice A0 n0 c0) := B3.cell 3
  have q4 : (v1.alloc (.cells #[.bool true, .int .i64 W, .int .i64 H, .slice (some ⟨rb, 0, none⟩) n n, .int .i64 a1, .int .i64 a2, .int .i64 s1, .int .i64 l1, .int .i64 cp.a, .int .i64 cp.b, .int .i64 cp.c, .int .i64 cp.d] 76)).cell? ⟨w.heap.size + 1, 7, none⟩ = some (.int .i64 al) := B3.cell 7
  have p1 := B3.free 1
  have p2 := B3.free 2
  have p3 := B3.free 3
  have p4 := B3.free 7
  clear hb1 hlt3 hltc
  go_wp2
  rw [← hb3] at B3 q1 q2 q3 q4 p1 p2 p3 p4 ⊢
  rw [← hb4] at B4 ⊢
  have Y3 := (((B3.put 1 (.int .i64 W)).put 2 (.int .i64 H)).put 3 (.slice (some ⟨rb, 0, none⟩) n n)).put 7 (.int .i64 l2)
  have Y4 := (((B4.far (p := ⟨b3, 1, none⟩) n34 (.int .i64 W)).far (p := ⟨b3, 2, none⟩) n34 (.int .i64 H)).far (p := ⟨b3, 3, none⟩) n34 (.slice (some ⟨rb, 0, none⟩) n n)).far (p := ⟨b3, 7, none⟩) n34 (.int .i64 l2)
  have YC := (((C1.far (p := ⟨b3, 1, none⟩) nrc (.int .i64 W)).far (p := ⟨b3, 2, none⟩) nrc (.int .i64 H)).far (p := ⟨b3, 3, none⟩) nrc (.slice (some ⟨rb, 0, none⟩) n n)).far (p := ⟨b3, 7, none⟩) nrc (.int .i64 l2)
  have YG := (((G.setCell (p := ⟨b3, 1, none⟩) hw3 (.int .i64 W)).setCell (p := ⟨b3, 2, none⟩) hw3 (.int .i64 H)).setCell (p := ⟨b3, 3, none⟩) hw3 (.slice (some ⟨rb, 0, none⟩) n n)).setCell (p := ⟨b3, 7, none⟩) hw3 (.int .i64 l2)
  clear q1 q2 q3 q4 p1 p2 p3 p4 e1 e2
  generalize (((((v1.alloc (.cells #[.bool true, .int .i64 W, .int .i64 H, .slice (some ⟨rb, 0, none⟩) n n, .int .i64 a1, .int .i64 a2, .int .i64 s1, .int .i64 l1, .int .i64 cp.a, .int .i64 cp.b, .int .i64 cp.c, .int .i64 cp.d] 76)).setCell ⟨b3, 1, none⟩ (.int .i64 W)).setCell ⟨b3, 2, none⟩ (.int .i64 H)).setCell ⟨b3, 3, none⟩ (.slice (some ⟨rb, 0, none⟩) n n)).setCell ⟨b3, 7, none⟩ (.int .i64 l2)) = v at *
  simp at Y3
  clear B3 B4 C1 G hb3 hb4 n34 nrc hw3
  have B3 := Y3
  have B4 := Y4
  clear Y3 Y4
  have hFl := hG.len
  have w16 := hG.w2
  have h16 := hG.h2
  have hR := fun (w' : World) (g : Bl v w') => (YC.bl g).rowC
  have cLg := fun (w' : World) (g : Bl v w') => layer1 (rc := n) (n := n) a1 a2 s1 l1 cp w' (hR w' g) hFl.symm (hFl.trans hG.hn) hG.w1 (by omega) hG.h1 (by omega) hG.may
  have cMg := fun (w' : World) (pm pc : Nat) (I : Img w' pm pc W H F) => pmay1 a1 a2 s1 l1 cp w' I (by have := hG.b3; unfold I64; omega) (by have := hG.b1; unfold I64; omega) (by have := hG.b2; unfold I64; omega)
  have cBg := fun (w' : World) (pm pc : Nat) (I : Img w' pm pc W H F) => pbox1 a1 a2 s1 l1 cp w' I hG.ly
  have cRb := fun (w' : World) => rbox1 W H (some ⟨rb, 0, none⟩) n n true a1 a2 s1 l1 cp w' (by omega) (by omega) hG.b3.1 (by have := hG.b3; omega) (by have := hG.b1; unfold Bd; omega) (by have := hG.b2; unfold Bd; omega)
  simp only [hG.ly] at cMg
  have hRaw : ∃ (J : World → Option Addr → Prop) (b : Bool), (∀ w', Bl v w' → Calls Try.prog 48 #[.agg #[.bool sm, .int .i64 W, .int .i64 H, .slice (some ⟨rb, 0, none⟩) n n, .int .i64 ax, .int .i64 ay, .int .i64 s, .int .i64 l2, .int .i64 cp.a, .int .i64 cp.b, .int .i64 cp.c, .int .i64 cp.d]] w' (fun e w'' => ∃ px, e = .returned (.agg #[.pointer px, .int .i64 ax, .int .i64 ay, .int .i64 s, .int .i64 l2, .int .i64 cp.a, .int .i64 cp.b, .int .i64 cp.c, .int .i64 cp.d]) ∧ J w'' px ∧ Bl w' w'')) ∧
      (∀ w' px, J w' px → Calls Try.prog 47 #[.agg #[.pointer px, .int .i64 ax, .int .i64 ay, .int .i64 s, .int .i64 l2, .int .i64 cp.a, .int .i64 cp.b, .int .i64 cp.c, .int .i64 cp.d]] w' (Rt w' (.bool b))) ∧
      (∀ w', Calls Try.prog 49 #[.agg #[.bool sm, .int .i64 W, .int .i64 H, .slice (some ⟨rb, 0, none⟩) n n, .int .i64 ax, .int .i64 ay, .int .i64 s, .int .i64 l2, .int .i64 cp.a, .int .i64 cp.b, .int .i64 cp.c, .int .i64 cp.d]] w' (Rt w' (.bool b))) := by
    cases sm
    · exact ⟨fun _ px => px = none, false, fun w' _ => (layer0 W H _ n n ax ay s l2 cp w').mono fun _ _ ⟨he, hg⟩ => ⟨none, he, rfl, hg.bl⟩, fun w' px hp => by subst hp; exact pmayN ax ay s l2 cp w', fun w' => rmay0 W H _ n n ax ay s l2 cp w'⟩
    · exact ⟨fun w' px => ∃ pm pc, px = some ⟨pm, 0, none⟩ ∧ Img w' pm pc W H F, lyMay W H s l2 ax ay, fun w' g => (layer1 (rc := n) (n := n) ax ay s l2 cp w' (hR w' g) hFl.symm (hFl.trans hG.hn) hG.w1 (by omega) hG.h1 (by omega) hG.may).mono fun _ _ ⟨pm, pc, he, hI, _, _, hg⟩ => ⟨some ⟨pm, 0, none⟩, he, ⟨pm, pc, rfl, hI⟩, hg⟩,
        fun w' px ⟨pm, pc, hp, hI⟩ => by subst hp; exact pmay1 ax ay s l2 cp w' hI hs hax hay, fun w' => rmay1 W H _ n n ax ay s l2 cp w' (by omega) (by omega) _ rfl⟩
  obtain ⟨J, b, cLr, cMr, cRr⟩ := hRaw
  clear hR hax hay hs h2 w16 h16 hFl
  generalize lyBox cp W H s1 a1 a2 = bx4 at *
  obtain ⟨x1, x2, x3, x4⟩ := bx4
  dsimp only at cBg cRb
  have SK : ∀ V, Bl v V → (V.cell? ⟨b3, 0, none⟩ = some (.bool sm) ∧ V.cell? ⟨b3, 1, none⟩ = some (.int .i64 W) ∧ V.cell? ⟨b3, 2, none⟩ = some (.int .i64 H) ∧ V.cell? ⟨b3, 3, none⟩ = some (.slice (some ⟨rb, 0, none⟩) n n) ∧ V.cell? ⟨b3, 4, none⟩ = some (.int .i64 ax) ∧ V.cell? ⟨b3, 5, none⟩ = some (.int .i64 ay) ∧ V.cell? ⟨b3, 6, none⟩ = some (.int .i64 s) ∧ V.cell? ⟨b3, 7, none⟩ = some (.int .i64 l2) ∧ V.cell? ⟨b3, 8, none⟩ = some (.int .i64 cp.a) ∧ V.cell? ⟨b3, 9, none⟩ = some (.int .i64 cp.b) ∧ V.cell? ⟨b3, 10, none⟩ = some (.int .i64 cp.c) ∧ V.cell? ⟨b3, 11, none⟩ = some (.int .i64 cp.d) ∧ V.cell? ⟨b4, 0, none⟩ = some (.bool true) ∧ V.cell? ⟨b4, 1, none⟩ = some (.int .i64 W) ∧ V.cell? ⟨b4, 2, none⟩ = some (.int .i64 H) ∧ V.cell? ⟨b4, 3, none⟩ = some (.slice (some ⟨rb, 0, none⟩) n n) ∧ V.cell? ⟨b4, 4, none⟩ = some (.int .i64 a1) ∧ V.cell? ⟨b4, 5, none⟩ = some (.int .i64 a2) ∧ V.cell? ⟨b4, 6, none⟩ = some (.int .i64 s1) ∧ V.cell? ⟨b4, 7, none⟩ = some (.int .i64 l1) ∧ V.cell? ⟨b4, 8, none⟩ = some (.int .i64 cp.a) ∧ V.cell? ⟨b4, 9, none⟩ = some (.int .i64 cp.b) ∧ V.cell? ⟨b4, 10, none⟩ = some (.int .i64 cp.c) ∧ V.cell? ⟨b4, 11, none⟩ = some (.int .i64 cp.d) ∧ Bl v V) := fun V g => ⟨(B3.bl g).cell 0, (B3.bl g).cell 1, (B3.bl g).cell 2, (B3.bl g).cell 3, (B3.bl g).cell 4, (B3.bl g).cell 5, (B3.bl g).cell 6, (B3.bl g).cell 7, (B3.bl g).cell 8, (B3.bl g).cell 9, (B3.bl g).cell 10, (B3.bl g).cell 11, (B4.bl g).cell 0, (B4.bl g).cell 1, (B4.bl g).cell 2, (B4.bl g).cell 3, (B4.bl g).cell 4, (B4.bl g).cell 5, (B4.bl g).cell 6, (B4.bl g).cell 7, (B4.bl g).cell 8, (B4.bl g).cell 9, (B4.bl g).cell 10, (B4.bl g).cell 11, g⟩
  go_region_held3 (fun V => V.cell? ⟨b3, 0, none⟩ = some (.bool sm) ∧ V.cell? ⟨b3, 1, none⟩ = some (.int .i64 W) ∧ V.cell? ⟨b3, 2, none⟩ = some (.int .i64 H) ∧ V.cell? ⟨b3, 3, none⟩ = some (.slice (some ⟨rb, 0, none⟩) n n) ∧ V.cell? ⟨b3, 4, none⟩ = some (.int .i64 ax) ∧ V.cell? ⟨b3, 5, none⟩ = some (.int .i64 ay) ∧ V.cell? ⟨b3, 6, none⟩ = some (.int .i64 s) ∧ V.cell? ⟨b3, 7, none⟩ = some (.int .i64 l2) ∧ V.cell? ⟨b3, 8, none⟩ = some (.int .i64 cp.a) ∧ V.cell? ⟨b3, 9, none⟩ = some (.int .i64 cp.b) ∧ V.cell? ⟨b3, 10, none⟩ = some (.int .i64 cp.c) ∧ V.cell? ⟨b3, 11, none⟩ = some (.int .i64 cp.d) ∧ V.cell? ⟨b4, 0, none⟩ = some (.bool true) ∧ V.cell? ⟨b4, 1, none⟩ = some (.int .i64 W) ∧ V.cell? ⟨b4, 2, none⟩ = some (.int .i64 H) ∧ V.cell? ⟨b4, 3, none⟩ = some (.slice (some ⟨rb, 0, none⟩) n n) ∧ V.cell? ⟨b4, 4, none⟩ = some (.int .i64 a1) ∧ V.cell? ⟨b4, 5, none⟩ = some (.int .i64 a2) ∧ V.cell? ⟨b4, 6, none⟩ = some (.int .i64 s1) ∧ V.cell? ⟨b4, 7, none⟩ = some (.int .i64 l1) ∧ V.cell? ⟨b4, 8, none⟩ = some (.int .i64 cp.a) ∧ V.cell? ⟨b4, 9, none⟩ = some (.int .i64 cp.b) ∧ V.cell? ⟨b4, 10, none⟩ = some (.int .i64 cp.c) ∧ V.cell? ⟨b4, 11, none⟩ = some (.int .i64 cp.d) ∧ Bl v V) ((refine SK _ ?_; repeat (first | with_reducible assumption | with_reducible exact Bl.refl _ | with_reducible exact (And.right (And.right (And.right (And.right (And.right (And.right (And.right (And.right (And.right (And.right (And.right (And.right (And.right (And.right (And.right (And.right (And.right (And.right (And.right (And.right (And.right (And.right (And.right (And.right (by assumption))))))))))))))))))))))))) | with_reducible exact Bl.trans (And.right (And.right (And.right (And.right (And.right (And.right (And.right (And.right (And.right (And.right (And.right (And.right (And.right (And.right (And.right (And.right (And.right (And.right (And.right (And.right (And.right (And.right (And.right (And.right (by assumption))))))))))))))))))))))))) (by assumption) | with_reducible exact Bl.gr (And.right (And.right (And.right (And.right (And.right (And.right (And.right (And.right (And.right (And.right (And.right (And.right (And.right (And.right (And.right (And.right (And.right (And.right (And.right (And.right (And.right (And.right (And.right (And.right (by assumption))))))))))))))))))))))))) (by assumption) | with_reducible apply Bl.drew | with_reducible apply Bl.alloc)))
    ((first
      | (go_at_call_of 48 (Value.agg #[.bool sm, .int .i64 W, .int .i64 H, .slice (some ⟨rb, 0, none⟩) n n, .int .i64 ax, .int .i64 ay, .int .i64 s, .int .i64 l2, .int .i64 cp.a, .int .i64 cp.b, .int .i64 cp.c, .int .i64 cp.d]); (refine (cLr _ (And.right (And.right (And.right (And.right (And.right (And.right (And.right (And.right (And.right (And.right (And.right (And.right (And.right (And.right (And.right (And.right (And.right (And.right (And.right (And.right (And.right (And.right (And.right (And.right (by assumption)))))))))))))))))))))))))).mono ?_); rintro e v2 ⟨px, rfl, j2, g2⟩; have G2 : Bl v v2 := Bl.trans (And.right (And.right (And.right (And.right (And.right (And.right (And.right (And.right (And.right (And.right (And.right (And.right (And.right (And.right (And.right (And.right (And.right (And.right (And.right (And.right (And.right (And.right (And.right (And.right (by assumption))))))))))))))))))))))))) g2)
      | (go_at_call 47; ((with_reducible refine (cMr _ px j2).mono ?_); rintro e v3 ⟨rfl, g3⟩); have G3 : Bl v v3 := Bl.gr (And.right (And.right (And.right (And.right (And.right (And.right (And.right (And.right (And.right (And.right (And.right (And.right (And.right (And.right (And.right (And.right (And.right (And.right (And.right (And.right (And.right (And.right (And.right (And.right (by assumption))))))))))))))))))))))))) g3)
      | (go_at_call 49; (refine (cRr _).mono ?_); rintro e v4 ⟨rfl, g4⟩; have G4 : Bl v v4 := Bl.gr (And.right (And.right (And.right (And.right (And.right (And.right (And.right (And.right (And.right (And.right (And.right (And.right (And.right (And.right (And.right (And.right (And.right (And.right (And.right (And.right (And.right (And.right (And.right (And.right (by assumption))))))))))))))))))))))))) g4)
      | (go_at_call 48; have I5' := I5; (refine (cLg _ (And.right (And.right (And.right (And.right (And.right (And.right (And.right (And.right (And.right (And.right (And.right (And.right (And.right (And.right (And.right (And.right (And.right (And.right (And.right (And.right (And.right (And.right (And.right (And.right (by assumption)))))))))))))))))))))))))).mono ?_); rintro e v7 ⟨pm7, pc7, rfl, I7, _, _, g7⟩; have G7 : Bl v v7 := Bl.trans (And.right (And.right (And.right (And.right (And.right (And.right (And.right (And.right (And.right (And.right (And.right (And.right (And.right (And.right (And.right (And.right (And.right (And.right (And.right (And.right (And.right (And.right (And.right (And.right (by assumption))))))))))))))))))))))))) g7)
      | (go_at_call 48; (refine (cLg _ (And.right (And.right (And.right (And.right (And.right (And.right (And.right (And.right (And.right (And.right (And.right (And.right (And.right (And.right (And.right (And.right (And.right (And.right (And.right (And.right (And.right (And.right (And.right (And.right (by assumption)))))))))))))))))))))))))).mono ?_); rintro e v5 ⟨pm5, pc5, rfl, I5, _, _, g5⟩; have G5 : Bl v v5 := Bl.trans (And.right (And.right (And.right (And.right (And.right (And.right (And.right (And.right (And.right (And.right (And.right (And.right (And.right (And.right (And.right (And.right (And.right (And.right (And.right (And.right (And.right (And.right (And.right (And.right (by assumption))))))))))))))))))))))))) g5)
      | (go_at_call 47; (refine (cMg _ _ _ I5).mono ?_); rintro e v6 ⟨rfl, g6⟩; have G6 : Bl v v6 := Bl.gr (And.right (And.right (And.right (And.right (And.right (And.right (And.right (And.right (And.right (And.right (And.right (And.right (And.right (And.right (And.right (And.right (And.right (And.right (And.right (And.right (And.right (And.right (And.right (And.right (by assumption))))))))))))))))))))))))) g6)
      | (go_at_call 50; (refine (cBg _ _ _ I7).mono ?_); rintro e v8 ⟨rfl, g8⟩; have G8 : Bl v v8 := Bl.gr (And.right (And.right (And.right (And.right (And.right (And.right (And.right (And.right (And.right (And.right (And.right (And.right (And.right (And.right (And.right (And.right (And.right (And.right (And.right (And.right (And.right (And.right (And.right (And.right (by assumption))))))))))))))))))))))))) g8)
      | (go_at_call 51; (refine (cRb _).mono ?_); rintro e v9 ⟨rfl, g9⟩; have G9 : Bl v v9 := Bl.gr (And.right (And.right (And.right (And.right (And.right (And.right (And.right (And.right (And.right (And.right (And.right (And.right (And.right (And.right (And.right (And.right (And.right (And.right (And.right (And.right (And.right (And.right (And.right (And.right (by assumption))))))))))))))))))))))))) g9)
      | (go_at_call 52; (refine (plives1 _).mono ?_); rintro e v10 ⟨rfl, g10⟩; have G10 : Bl v v10 := Bl.gr (And.right (And.right (And.right (And.right (And.right (And.right (And.right (And.right (And.right (And.right (And.right (And.right (And.right (And.right (And.right (And.right (And.right (And.right (And.right (And.right (And.right (And.right (And.right (And.right (by assumption))))))))))))))))))))))))) g10)))
  all_goals
    go_wp2
    go_ret
    exact ⟨rfl, YG.trans (And.right (And.right (And.right (And.right (And.right (And.right (And.right (And.right (And.right (And.right (And.right (And.right (And.right (And.right (And.right (And.right (And.right (And.right (And.right (And.right (And.right (And.right (And.right (And.right (by assumption)))))))))))))))))))))))))⟩

set_option maxRecDepth 100000 in
theorem paintMay_lifted (os : Os) (started : os.Started) (H : Type) (enc : TypeId × Value → H) :
    ReturnsInHanded {} Try.checked os 9 .any (Rows.paintMaySpec.pre6 enc Try.prog Try.f9 Rows.paintMayRow.domain false) (Rows.paintMaySpec.post enc Try.prog Try.f9 false true false false) := by
  refine returnsInHanded_of_change (C := Try.checked) own started (by kernel_rfl) Try.func9
    (ChangeSpec.witness6 (enc := enc) (C := Try.checked) false ⟨#[], #[.agg #[.bool false, .int .i64 0, .int .i64 0, .slice none 0 0, .int .i64 0, .int .i64 0, .int .i64 0, .int .i64 0, .int .i64 0, .int .i64 0, .int .i64 0, .int .i64 0, .int .i64 0, .int .i64 0, .slice none 0 0]], []⟩ 8 (by kernel_rfl) (by kernel_rfl) (by kernel_rfl) (by kernel_rfl)) ?_
  intro W base args ds gs before hval0 hW hcnd _
  have hval : ∀ (j : Nat) t v, Try.f9.params[j]? = some t → args[j]? = some v → Value.okWide Try.prog W .any base t v := hval0
  have hW' := hW
  obtain ⟨p, q, hA0, hV, rfl, hfz, hnd⟩ := hW
  have hA : DataW.TrodAll enc Try.prog W 0 (fun _ => true) true Try.f9.params.toList args.toList ds p := hA0
  rw [Try.params9] at hA hval
  obtain ⟨v0, vs0, d0, ds0, p0, q0, hargs, rfl, rfl, h0, r0⟩ := trodAll_cons hA
  obtain ⟨rfl, rfl, rfl⟩ := trodAll_nil r0
  obtain rfl : args = #[v0] := by cases args; simp_all
  obtain ⟨rfl, rfl⟩ := trodVars_none hV
  obtain ⟨sm0, W00, H00, A00, n00, c00, ax0, ay0, s0, al0, cp0, cw0, ch0, A0, c0, L0, rfl, hK0, hc0, hm0, hr0, hI0⟩ := open_case (hval 0 78 v0 rfl rfl) h0
  clear hA0 hval0
  simp only [List.append_nil] at hW'
  have hlt := hW'.lt
  refine (pmay_walk sm0 W00 H00 A00 n00 c00 ax0 ay0 s0 al0 cp0 cw0 ch0 A0 c0 L0 W hK0 hc0 hm0 hr0 hI0).mono fun e W' ⟨he, hb⟩ => ?_
  subst he
  exact ⟨_, rfl, close_below (pa := p0) (pv := []) hW' (fun _ _ _ => (trodAll_cons_mk (shut_bool Try.underlying4 _) trodAll_mk0)) (fun sp hsp => by
      have := (trodAll_cons_mk (WideElems.Trod_stays laidOut (by kernel_rfl) (of_decide_eq_true (by kernel_rfl)) h0 (fun x hx => Below.same hb (hlt x (by simp [hx]))) (sp' := sp) (fun x hx => hsp x (by simp [hx]))) trodAll_mk0)
      simp only [List.append_nil] at this
      exact this)
    (fun _ _ => rfl) (by simp) hb (ok_one (by kernel_rfl) rfl (okWide_bool_mk Try.underlying4 _))⟩

theorem paintMay_holds : Rows.PaintMaySaid :=
  OpenClaim.holds_of_wide 9 Try.f9 rfl rfl rfl rfl rfl rfl rfl ⟨rfl, rfl, rfl, rfl, rfl⟩ rfl rfl rfl rfl rfl (by kernel_rfl) Try.func9 (by kernel_rfl)
    (of_decide_eq_true (by kernel_rfl)) (by unfold Func.isWrapper; first | (rw [if_pos (by decide +kernel)]; kernel_rfl) | (rw [if_neg (by decide +kernel)]; exact ⟨rfl, rfl⟩))
    (fun os started H enc _ => paintMay_lifted os started H enc)

#print axioms paintMay_holds

end Go.Proofs.Ytleamlecjojfdaa
