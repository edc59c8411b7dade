/-
  What is proved: the document's Write of an image. Conditions: sides of an image; what is written are bytes.
-/
import Derived.Test.YtackojmckloacaaJm
import Derived.Test.YtackojmckloacaaM5
import Derived.Test.YtackojmckloacaaIy
import Derived.Test.YtackojmckloacaaIu
import Derived.Test.YtackojmckloacaaQd
import Derived.Deep.RegionHeld3
namespace Go.Proofs.Ytackojmckloacaa
open Go.RowKit Go.Sort Go.Shelf

set_option maxRecDepth 100000 in
set_option maxHeartbeats 2000000 in
theorem rwriteR {W H g cc n nb cb : Nat} {A : Option Addr} (w : World) (a b c d : Int) (h : (!emptyB a b c d && coversB 0 0 W H a b c d) = false) :
    Calls Try.prog 12 #[.agg #[.int .i64 W, .int .i64 H, .slice (some ⟨g, 0, none⟩) n cc], .agg #[.int .i64 a, .int .i64 b, .int .i64 c, .int .i64 d], .slice A nb cb] w (Rt w (.tuple #[.agg #[.int .i64 W, .int .i64 H, .slice (some ⟨g, 0, none⟩) n cc], .int .i64 4])) := by
  have cbx := fun w => refBox1 (W := W) (H := H) (A := some ⟨g, 0, none⟩) (n := n) (c := cc) w
  have cv := fun w => refcovers1 0 0 W H a b c d w
  have ce := fun w => refempty1 a b c d w
  have G0 := ((((Gr.refl w).alloc (.cells #[.int .i64 W, .int .i64 H, .slice (some ⟨g, 0, none⟩) n cc] 25)).alloc (.cells #[.int .i64 a, .int .i64 b, .int .i64 c, .int .i64 d] 32)).alloc (.cells #[.int .i64 0, .int .i64 0, .slice none 0 0] 25))
  have M0 := ((At.new w #[.int .i64 W, .int .i64 H, .slice (some ⟨g, 0, none⟩) n cc] 25).alloc (.cells #[.int .i64 a, .int .i64 b, .int .i64 c, .int .i64 d] 32)).alloc (.cells #[.int .i64 0, .int .i64 0, .slice none 0 0] 25)
  have E0 := (At.newAt (w := w.alloc (.cells #[.int .i64 W, .int .i64 H, .slice (some ⟨g, 0, none⟩) n cc] 25)) (n := w.heap.size + 1) (by simp) #[.int .i64 a, .int .i64 b, .int .i64 c, .int .i64 d] 32).alloc (.cells #[.int .i64 0, .int .i64 0, .slice none 0 0] 25)
  have R0 := At.newAt (w := (w.alloc (.cells #[.int .i64 W, .int .i64 H, .slice (some ⟨g, 0, none⟩) n cc] 25)).alloc (.cells #[.int .i64 a, .int .i64 b, .int .i64 c, .int .i64 d] 32)) (n := w.heap.size + 1 + 1) (by simp) #[.int .i64 0, .int .i64 0, .slice none 0 0] 25
  go_enter Try.func12, Try.ntmps12
  go_wp2_with fail
  have m0 := fun q os => M0.cells q os 0; have m1 := fun q os => M0.cells q os 1; have m2 := fun q os => M0.cells q os 2
  have e0 := fun q os => E0.cells q os 0; have e1 := fun q os => E0.cells q os 1; have e2 := fun q os => E0.cells q os 2; have e3 := fun q os => E0.cells q os 3
  simp at m0 m1 m2 e0 e1 e2 e3
  refine wp_region_quiet_grown (by kernel_rfl) (by kernel_rfl) ?_
  repeat (first | go_big_quiet_step ((first | (go_at_call 33; exact Calls.grown (cbx _)) | (go_at_call 32; exact Calls.grown (cv _)))) | quiet_step ((first | (go_at_call 33; exact Calls.grown (cbx _)) | (go_at_call 32; exact Calls.grown (cv _)))))
  refine wpQuiet_nil ?_
  intro V g9
  replace g9 : Gr _ V := g9
  replace M0 := M0.gr g9
  replace E0 := E0.gr g9
  replace R0 := R0.gr g9
  replace G0 := G0.trans g9
  clear m0 m1 m2 e0 e1 e2 e3 g9 cbx cv
  obtain ⟨e0, e1, e2, e3⟩ := cells4 E0
  go_wp2_with fail
  refine (ce _).mono ?_
  rintro e v1 ⟨rfl, g1⟩
  replace M0 := M0.gr g1
  replace E0 := E0.gr g1
  replace R0 := R0.gr g1
  replace G0 := G0.trans g1
  clear e0 e1 e2 e3 g1 ce
  obtain ⟨e0, e1, e2, e3⟩ := cells4 E0
  obtain ⟨m0, m1, m2⟩ := cells3 M0
  obtain ⟨r0, r1, r2⟩ := cells3 R0
  obtain ⟨f0, f1, f2, _⟩ := free4 R0
  cases hE : emptyB a b c d
  · have hC : coversB 0 0 W H a b c d = false := by rw [hE] at h; simpa using h
    clear h
    go_wp2
    have P := R0.put3 (.int .i64 W) (.int .i64 H) (.slice (some ⟨g, 0, none⟩) n cc)
    have G := G0.put3 (k := w.heap.size + 1 + 1) (by omega) (.int .i64 W) (.int .i64 H) (.slice (some ⟨g, 0, none⟩) n cc)
    generalize ((v1.setCell ⟨w.heap.size + 1 + 1, 0, none⟩ (.int .i64 W)).setCell ⟨w.heap.size + 1 + 1, 1, none⟩ (.int .i64 H)).setCell ⟨w.heap.size + 1 + 1, 2, none⟩ (.slice (some ⟨g, 0, none⟩) n cc) = V9 at P G ⊢
    obtain ⟨d0, d1, d2⟩ := cells3 P
    exact bodyPost_ret (v := .tuple #[.agg #[.int .i64 W, .int .i64 H, .slice (some ⟨g, 0, none⟩) n cc], .int .i64 4]) (by simp [results, Try.results12, go_sem, d0, d1, d2]) rfl ⟨rfl, G⟩
  · clear h
    go_wp2
    have P := R0.put3 (.int .i64 W) (.int .i64 H) (.slice (some ⟨g, 0, none⟩) n cc)
    have G := G0.put3 (k := w.heap.size + 1 + 1) (by omega) (.int .i64 W) (.int .i64 H) (.slice (some ⟨g, 0, none⟩) n cc)
    generalize ((v1.setCell ⟨w.heap.size + 1 + 1, 0, none⟩ (.int .i64 W)).setCell ⟨w.heap.size + 1 + 1, 1, none⟩ (.int .i64 H)).setCell ⟨w.heap.size + 1 + 1, 2, none⟩ (.slice (some ⟨g, 0, none⟩) n cc) = V9 at P G ⊢
    obtain ⟨d0, d1, d2⟩ := cells3 P
    exact bodyPost_ret (v := .tuple #[.agg #[.int .i64 W, .int .i64 H, .slice (some ⟨g, 0, none⟩) n cc], .int .i64 4]) (by simp [results, Try.results12, go_sem, d0, d1, d2]) rfl ⟨rfl, G⟩

set_option maxRecDepth 100000 in
set_option maxHeartbeats 2000000 in
theorem rwriteL {W H g cc n nb cb : Nat} {A : Option Addr} (w : World) (w2 : W ≤ 256) (h2 : H ≤ 256) (a b c d : Int) (h : (!emptyB a b c d && coversB 0 0 W H a b c d) = true) (v : Int)
    (hv : ((nb : Int) < 4 * areaI a b c d ∧ v = 3) ∨ (4 * areaI a b c d < (nb : Int) ∧ v = 2)) :
    Calls Try.prog 12 #[.agg #[.int .i64 W, .int .i64 H, .slice (some ⟨g, 0, none⟩) n cc], .agg #[.int .i64 a, .int .i64 b, .int .i64 c, .int .i64 d], .slice A nb cb] w (Rt w (.tuple #[.agg #[.int .i64 W, .int .i64 H, .slice (some ⟨g, 0, none⟩) n cc], .int .i64 v])) := by
  obtain ⟨hmay, hb⟩ := may_in h w2 h2
  have hbd := area_bd hmay
  have car := fun w => refarea1 a b c d w hmay
  change 0 ≤ areaI a b c d ∧ areaI a b c d ≤ 4398046511104 at hbd
  obtain ⟨hbd1, hbd2⟩ := hbd
  have hE : emptyB a b c d = false := by
    cases hE : emptyB a b c d
    · rfl
    · rw [hE] at h; cases h
  have hC : coversB 0 0 W H a b c d = true := by rw [hE] at h; simpa using h
  clear h hmay hb
  generalize areaI a b c d = ar at *
  have wr4 : IntKind.i64.wrap (4 * ar) = 4 * ar := IntWalk.i64_in _ (by omega)
  have cbx := fun w => refBox1 (W := W) (H := H) (A := some ⟨g, 0, none⟩) (n := n) (c := cc) w
  have cv := fun w => refcovers1 0 0 W H a b c d w
  have ce := fun w => refempty1 a b c d w
  have G0 := ((((Gr.refl w).alloc (.cells #[.int .i64 W, .int .i64 H, .slice (some ⟨g, 0, none⟩) n cc] 25)).alloc (.cells #[.int .i64 a, .int .i64 b, .int .i64 c, .int .i64 d] 32)).alloc (.cells #[.int .i64 0, .int .i64 0, .slice none 0 0] 25))
  have M0 := ((At.new w #[.int .i64 W, .int .i64 H, .slice (some ⟨g, 0, none⟩) n cc] 25).alloc (.cells #[.int .i64 a, .int .i64 b, .int .i64 c, .int .i64 d] 32)).alloc (.cells #[.int .i64 0, .int .i64 0, .slice none 0 0] 25)
  have E0 := (At.newAt (w := w.alloc (.cells #[.int .i64 W, .int .i64 H, .slice (some ⟨g, 0, none⟩) n cc] 25)) (n := w.heap.size + 1) (by simp) #[.int .i64 a, .int .i64 b, .int .i64 c, .int .i64 d] 32).alloc (.cells #[.int .i64 0, .int .i64 0, .slice none 0 0] 25)
  have R0 := At.newAt (w := (w.alloc (.cells #[.int .i64 W, .int .i64 H, .slice (some ⟨g, 0, none⟩) n cc] 25)).alloc (.cells #[.int .i64 a, .int .i64 b, .int .i64 c, .int .i64 d] 32)) (n := w.heap.size + 1 + 1) (by simp) #[.int .i64 0, .int .i64 0, .slice none 0 0] 25
  go_enter Try.func12, Try.ntmps12
  go_wp2_with fail
  have m0 := fun q os => M0.cells q os 0; have m1 := fun q os => M0.cells q os 1; have m2 := fun q os => M0.cells q os 2
  have e0 := fun q os => E0.cells q os 0; have e1 := fun q os => E0.cells q os 1; have e2 := fun q os => E0.cells q os 2; have e3 := fun q os => E0.cells q os 3
  simp at m0 m1 m2 e0 e1 e2 e3
  refine wp_region_quiet_grown (by kernel_rfl) (by kernel_rfl) ?_
  repeat (first | go_big_quiet_step ((first | (go_at_call 33; exact Calls.grown (cbx _)) | (go_at_call 32; exact Calls.grown (cv _)))) | quiet_step ((first | (go_at_call 33; exact Calls.grown (cbx _)) | (go_at_call 32; exact Calls.grown (cv _)))))
  refine wpQuiet_nil ?_
  intro V g9
  replace g9 : Gr _ V := g9
  replace M0 := M0.gr g9
  replace E0 := E0.gr g9
  replace R0 := R0.gr g9
  replace G0 := G0.trans g9
  clear m0 m1 m2 e0 e1 e2 e3 g9 cbx cv
  obtain ⟨e0, e1, e2, e3⟩ := cells4 E0
  go_wp2_with fail
  refine (ce _).mono ?_
  rintro e v1 ⟨rfl, g1⟩
  replace M0 := M0.gr g1
  replace E0 := E0.gr g1
  replace R0 := R0.gr g1
  replace G0 := G0.trans g1
  clear e0 e1 e2 e3 g1 ce
  obtain ⟨e0, e1, e2, e3⟩ := cells4 E0
  obtain ⟨m0, m1, m2⟩ := cells3 M0
  obtain ⟨r0, r1, r2⟩ := cells3 R0
  obtain ⟨f0, f1, f2, _⟩ := free4 R0
  go_wp2_with fail
  refine (car _).mono ?_
  rintro e v2 ⟨rfl, g2⟩
  replace M0 := M0.gr g2
  replace R0 := R0.gr g2
  replace G0 := G0.trans g2
  clear e0 e1 e2 e3 m0 m1 m2 r0 r1 r2 f0 f1 f2 g2 car E0
  obtain ⟨m0, m1, m2⟩ := cells3 M0
  obtain ⟨r0, r1, r2⟩ := cells3 R0
  obtain ⟨f0, f1, f2, _⟩ := free4 R0
  rcases hv with ⟨hv, rfl⟩ | ⟨hv, rfl⟩
  · go_wp2
    have P := R0.put3 (.int .i64 W) (.int .i64 H) (.slice (some ⟨g, 0, none⟩) n cc)
    have G := G0.put3 (k := w.heap.size + 1 + 1) (by omega) (.int .i64 W) (.int .i64 H) (.slice (some ⟨g, 0, none⟩) n cc)
    generalize ((v2.setCell ⟨w.heap.size + 1 + 1, 0, none⟩ (.int .i64 W)).setCell ⟨w.heap.size + 1 + 1, 1, none⟩ (.int .i64 H)).setCell ⟨w.heap.size + 1 + 1, 2, none⟩ (.slice (some ⟨g, 0, none⟩) n cc) = V9 at P G ⊢
    obtain ⟨d0, d1, d2⟩ := cells3 P
    exact bodyPost_ret (v := .tuple #[.agg #[.int .i64 W, .int .i64 H, .slice (some ⟨g, 0, none⟩) n cc], .int .i64 3]) (by simp [results, Try.results12, go_sem, d0, d1, d2]) rfl ⟨rfl, G⟩
  · have hv2 : ¬ (nb : Int) < 4 * ar := by omega
    go_wp2
    have P := R0.put3 (.int .i64 W) (.int .i64 H) (.slice (some ⟨g, 0, none⟩) n cc)
    have G := G0.put3 (k := w.heap.size + 1 + 1) (by omega) (.int .i64 W) (.int .i64 H) (.slice (some ⟨g, 0, none⟩) n cc)
    generalize ((v2.setCell ⟨w.heap.size + 1 + 1, 0, none⟩ (.int .i64 W)).setCell ⟨w.heap.size + 1 + 1, 1, none⟩ (.int .i64 H)).setCell ⟨w.heap.size + 1 + 1, 2, none⟩ (.slice (some ⟨g, 0, none⟩) n cc) = V9 at P G ⊢
    obtain ⟨d0, d1, d2⟩ := cells3 P
    exact bodyPost_ret (v := .tuple #[.agg #[.int .i64 W, .int .i64 H, .slice (some ⟨g, 0, none⟩) n cc], .int .i64 2]) (by simp [results, Try.results12, go_sem, d0, d1, d2]) rfl ⟨rfl, G⟩

end Go.Proofs.Ytackojmckloacaa
