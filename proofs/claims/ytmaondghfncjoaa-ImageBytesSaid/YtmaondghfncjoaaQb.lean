/-
  What is proved: the statement ImageBytes: bytes of points are the document's, and what is read is written as it was. No conditions.
-/
import Derived.Test.YtmaondghfncjoaaQm
import Derived.Test.YtmaondghfncjoaaQs
import Derived.Test.YtmaondghfncjoaaIn
import Derived.Test.YtmaondghfncjoaaIb2
import Derived.Test.YtmaondghfncjoaaIg
import Derived.Test.YtmaondghfncjoaaIl
import Derived.Test.YtmaondghfncjoaaId
import Derived.Laws.BytesArg
import Derived.Handy
import Derived.Shelf.Bytes.SlEqualAll
import Derived.Deep.RegionHeld3
import Derived.Deep.DeepCutAuto
import Derived.Deep.CutBlock
import Derived.Lib.QuietBelow
namespace Go.Proofs.Ytmaondghfncjoaa
open Go.ChangeShapes Go.WideShapes Go.ChangeAt Go.RowKit Go.Joins Go.Sort

theorem Ns.text {w : World} {A : Option Addr} {c : Nat} {L : List Int} (h : Ns .u8 w A L) : (convert 33 9 (.slice A L.length c)).run Try.prog w = .ok (.string (strOfNums L)) w := by
  rcases h with rfl | ⟨b, off, rfl, hr⟩
  · exact run_convert_bytes_zero w 33 5 Try.underlying33 Try.underlying5 A c 9 Try.underlying9
  · refine run_convert_bytes_arg (P := Try.prog) w 33 5 Try.underlying33 Try.underlying5 b off _ c _ rfl (fun i hi => ?_) 9 Try.underlying9
    obtain ⟨x, hx⟩ := list_at hi
    rw [hr i x hx, List.getD_eq_getElem?_getD, hx]; rfl
theorem Gr.put4 {a w : World} (h : Gr a w) {k : Nat} (hk : a.heap.size ≤ k) (u0 u1 u2 u3 : Value) : Gr a ((((w.setCell ⟨k, 0, none⟩ u0).setCell ⟨k, 1, none⟩ u1).setCell ⟨k, 2, none⟩ u2).setCell ⟨k, 3, none⟩ u3) :=
  (((h.setCell (p := ⟨k, 0, none⟩) hk u0).setCell (p := ⟨k, 1, none⟩) hk u1).setCell (p := ⟨k, 2, none⟩) hk u2).setCell (p := ⟨k, 3, none⟩) hk u3

theorem nil_text (w : World) : (convert 33 9 (.slice none 0 0)).run Try.prog w = .ok (.string ⟨#[]⟩) w := Ns.text (L := []) (.inl rfl)
theorem putRun_mem : ∀ (vs L : List Int) (k : Nat) (c : Int), c ∈ putRun L k vs → c ∈ L ∨ c ∈ vs
  | [], _, _, _, h => .inl h
  | v :: vs, L, k, c, h => by
    rcases putRun_mem vs (L.set k v) (k + 1) c h with h | h
    · rcases List.mem_or_eq_of_mem_set h with h | rfl
      · exact .inl h
      · exact .inr (by simp)
    · exact .inr (List.mem_cons_of_mem _ h)
theorem wrS_mem (W x0 m : Nat) : ∀ (ys : List Nat) (st : List Int × List Int) (c : Int), c ∈ (wrS W x0 m st ys).1 → c ∈ st.1 ∨ c ∈ st.2
  | [], _, _, h => .inl h
  | y :: ys, st, c, h => by
    rcases wrS_mem W x0 m ys (putRun st.1 (y * W + x0) (st.2.take m), st.2.drop m) c h with h | h
    · rcases putRun_mem _ _ _ _ h with h | h
      · exact .inl h
      · exact .inr (List.mem_of_mem_take h)
    · exact .inr (List.mem_of_mem_drop h)
theorem in_nat {a b c d : Int} {W H : Nat} (h : (!emptyB a b c d && coversB 0 0 W H a b c d) = true) : ∃ x0 y0 x1 y1 : Nat, a = x0 ∧ b = y0 ∧ c = x1 ∧ d = y1 ∧ x0 < x1 ∧ x1 ≤ W ∧ y0 < y1 ∧ y1 ≤ H := by
  simp [emptyB, coversB] at h
  exact ⟨a.toNat, b.toNat, c.toNat, d.toNat, by omega, by omega, by omega, by omega, by omega, by omega, by omega, by omega⟩
/-- Both tell whether points are solid, and tell the same. -/
theorem sol_both {W H : Nat} {F : List Int} (hF : F.length = W * H) (h32 : ∀ c ∈ F, C32 c) (w1 : 1 ≤ W) (w2 : W ≤ 256) (h2 : H ≤ 256) (a b c d : Int) : ∃ sb : Bool,
    (∀ (V : World) (pm pc : Nat), Img V pm pc W H F → Calls Try.prog 24 #[.pointer (some ⟨pm, 0, none⟩), .agg #[.int .i64 a, .int .i64 b, .int .i64 c, .int .i64 d]] V (fun e w' => e = .returned (.bool sb) ∧ Bl V w')) ∧
    (∀ (V : World) (g k : Nat), RowN .u32 V g 0 F → Calls Try.prog 25 #[.agg #[.int .i64 W, .int .i64 H, .slice (some ⟨g, 0, none⟩) F.length k], .agg #[.int .i64 a, .int .i64 b, .int .i64 c, .int .i64 d]] V (fun e w' => e = .returned (.bool sb) ∧ Gr V w')) := by
  obtain ⟨x0, y0, x1, y1, hcut, hx0, hxx, hw, hyy, hh, hp⟩ := cut_nat a b c d W H
  refine ⟨_, fun V pm pc hI => solid1 V hI h32 a b c d x0 x1 y0 y1 hcut hxx hw hyy hh, fun V g k hR => ?_⟩
  rw [sol_eq hF w1 hx0 hw hyy (fun i j hi hj => by rw [hp i j hi hj]; simp)]
  exact refsolid1 V hR hF h32 w1 w2 h2 a b c d

set_option maxRecDepth 100000 in
set_option maxHeartbeats 16000000 in
theorem ibytes_walk (x y : Int) (A : Option Addr) (ca : Nat) (a : List Int) (ra rb rc rd : Int) (w : World) (hx : I64 x) (hy : I64 y) (hA : Ns .u32 w A a) (h32 : ∀ c ∈ a, C32 c) (hca : a.length ≤ ca) (hcm : ca ≤ maxLen) (h1 : I64 ra) (h2 : I64 rb) (h3 : I64 rc) (h4 : I64 rd) :
    Calls Try.prog 4 #[.int .i64 x, .int .i64 y, .slice A a.length ca, .agg #[.int .i64 ra, .int .i64 rb, .int .i64 rc, .int .i64 rd]] w (fun e w' => e = .returned (.bool true) ∧ Bl w w') := by
  obtain ⟨s1, s2, hs3⟩ := side_bd x
  obtain ⟨t1, t2, ht3⟩ := side_bd y
  clear hs3 ht3
  have G0 := (Gr.refl w).alloc (.cells #[.int .i64 ra, .int .i64 rb, .int .i64 rc, .int .i64 rd] 32)
  have E0 := At.new w #[.int .i64 ra, .int .i64 rb, .int .i64 rc, .int .i64 rd] 32
  have cg := mgood1 x y A ca a _ (hA.bl G0.bl) h32 hca hcm hx hy
  have hFl := goodL_len (side x * side y) a
  have hFm := goodL_may (side x * side y) a
  generalize side x = W at *
  generalize side y = H at *
  generalize goodL (W * H) a = F at *
  have cs := fun w => small1 ra rb rc rd w h1 h2 h3 h4
  generalize smallR ra rb rc rd = sm at *
  obtain ⟨sa, sb, sc, sd⟩ := sm
  dsimp only at cs
  have cc := fun w => refcutI1 sa sb sc sd 0 0 W H w
  obtain ⟨x0, y0, x1, y1, hcut, hx0, hxx, hw, hyy, hh, _⟩ := cut_nat sa sb sc sd W H
  rw [hcut] at cc
  dsimp only at cc
  clear hcut
  have hF32 : ∀ c ∈ F, C32 c := fun c hc => (hFm c hc).1
  have cb1 := fun (b : Nat) (w : World) (h : RowN .u32 w b 0 F) => build1 (c := W * H) w h hFl s1 (by omega) t1 (by omega) hFm
  rw [hFl] at cb1
  have hWH := Nat.mul_le_mul s2 t2
  obtain ⟨n, hn⟩ : ∃ n, n = W * H := ⟨_, rfl⟩
  rw [← hn] at cg cb1 hWH
  replace hn := Lib.hid hn
  replace hFl := Lib.hid hFl
  generalize a.length = la at *
  have mixed : Try.prog.follows .mixedOrders = true := by kernel_rfl
  go_enter Try.func4, Try.ntmps4
  go_wp2_with fail
  refine cg.mono ?_
  rintro e v1 ⟨b, rfl, C1, hb1, g1⟩
  replace E0 := E0.bl g1
  replace G0 := G0.bl.trans g1
  have M1 := At.new v1 #[.int .i64 W, .int .i64 H, .slice (some ⟨b, 0, none⟩) n n] 25
  replace C1 := C1.alloc (.cells #[.int .i64 W, .int .i64 H, .slice (some ⟨b, 0, none⟩) n n] 25)
  replace E0 := E0.alloc (.cells #[.int .i64 W, .int .i64 H, .slice (some ⟨b, 0, none⟩) n n] 25)
  replace G0 := G0.alloc (.cells #[.int .i64 W, .int .i64 H, .slice (some ⟨b, 0, none⟩) n n] 25)
  clear cg g1 hb1
  go_wp2_with fail
  refine (cb1 _ _ C1.rowC).mono ?_
  rintro e v2 ⟨pm, pc, rfl, I2, _, _, g2⟩
  replace M1 := M1.bl g2
  replace C1 := C1.bl g2
  replace E0 := E0.bl g2
  replace G0 := G0.trans g2
  clear g2 cb1
  obtain ⟨bM, hbM⟩ : ∃ bM, bM = v1.heap.size := ⟨_, rfl⟩
  rw [← hbM] at M1 ⊢
  replace hbM := Lib.hid hbM
  have SK : ∀ V, Gr v2 V → (V.cell? ⟨bM, 0, none⟩ = some (.int .i64 W) ∧ V.cell? ⟨bM, 1, none⟩ = some (.int .i64 H) ∧ V.cell? ⟨bM, 2, none⟩ = some (.slice (some ⟨b, 0, none⟩) n n) ∧ V.cell? ⟨w.heap.size, 0, none⟩ = some (.int .i64 ra) ∧ V.cell? ⟨w.heap.size, 1, none⟩ = some (.int .i64 rb) ∧ V.cell? ⟨w.heap.size, 2, none⟩ = some (.int .i64 rc) ∧ V.cell? ⟨w.heap.size, 3, none⟩ = some (.int .i64 rd) ∧ Gr v2 V) := fun V g => by
    obtain ⟨m0, m1, m2⟩ := cells3 (M1.gr g)
    obtain ⟨e0, e1, e2, e3⟩ := cells4 (E0.gr g)
    exact ⟨m0, m1, m2, e0, e1, e2, e3, g⟩
  go_upto_region 5 with fail
  go_cut [11] (fun o wx => ∃ kg : Nat, o = .pointer (some ⟨kg, 0, none⟩) ∧ At wx kg #[.int .i64 x0, .int .i64 y0, .int .i64 x1, .int .i64 y1] 32 ∧ Gr v2 wx)
  case first =>
    go_region_held3 (fun V => V.cell? ⟨bM, 0, none⟩ = some (.int .i64 W) ∧ V.cell? ⟨bM, 1, none⟩ = some (.int .i64 H) ∧ V.cell? ⟨bM, 2, none⟩ = some (.slice (some ⟨b, 0, none⟩) n n) ∧ V.cell? ⟨w.heap.size, 0, none⟩ = some (.int .i64 ra) ∧ V.cell? ⟨w.heap.size, 1, none⟩ = some (.int .i64 rb) ∧ V.cell? ⟨w.heap.size, 2, none⟩ = some (.int .i64 rc) ∧ V.cell? ⟨w.heap.size, 3, none⟩ = some (.int .i64 rd) ∧ Gr v2 V) ((refine SK _ ?_; first | assumption | exact Gr.refl _ | exact (Gr.refl _).drew | exact (And.right (And.right (And.right (And.right (And.right (And.right (And.right (by assumption)))))))) | exact Gr.drew (And.right (And.right (And.right (And.right (And.right (And.right (And.right (by assumption)))))))) | exact Gr.alloc (And.right (And.right (And.right (And.right (And.right (And.right (And.right (by assumption)))))))) _ | exact Gr.alloc (by assumption) _ | exact Gr.put4 (by assumption) (Nat.le_refl _) _ _ _ _ | exact Gr.put4 (by assumption) (Gr.size (by assumption)) _ _ _ _ | exact Gr.trans (And.right (And.right (And.right (And.right (And.right (And.right (And.right (by assumption)))))))) (by assumption)))
      ((first
        | (go_at_call 19; (refine (cs _).mono ?_); rintro e a1 ⟨rfl, g1⟩; have B1 : Gr v2 a1 := Gr.trans (And.right (And.right (And.right (And.right (And.right (And.right (And.right (by assumption)))))))) g1; (try have X1 : At a1 v2.heap.size #[.int .i64 0, .int .i64 0, .int .i64 0, .int .i64 0] 32 := (At.new v2.drew #[.int .i64 0, .int .i64 0, .int .i64 0, .int .i64 0] 32).gr g1))
        | (go_at_call 20; (refine (refBox1 _).mono ?_); rintro e a2 ⟨rfl, g2⟩; have B2 : Gr v2 a2 := Gr.trans (And.right (And.right (And.right (And.right (And.right (And.right (And.right (by assumption)))))))) g2; (try have X2 : At a2 a1.heap.size #[.int .i64 0, .int .i64 0, .int .i64 0, .int .i64 0] 32 := (At.new a1 #[.int .i64 0, .int .i64 0, .int .i64 0, .int .i64 0] 32).gr g2); (try have X2 : At a2 v2.heap.size #[.int .i64 0, .int .i64 0, .int .i64 0, .int .i64 0] 32 := X1.gr g2))
        | (go_at_call 18; (refine (cc _).mono ?_); rintro e a3 ⟨rfl, g3⟩; have B3 : Gr v2 a3 := Gr.trans (And.right (And.right (And.right (And.right (And.right (And.right (And.right (by assumption)))))))) g3; (try have X3 : At a3 a2.heap.size #[.int .i64 0, .int .i64 0, .int .i64 0, .int .i64 0] 32 := (At.new a2 #[.int .i64 0, .int .i64 0, .int .i64 0, .int .i64 0] 32).gr g3); (try have X3 : At a3 a1.heap.size #[.int .i64 0, .int .i64 0, .int .i64 0, .int .i64 0] 32 := X2.gr g3); (try have X3 : At a3 v2.heap.size #[.int .i64 0, .int .i64 0, .int .i64 0, .int .i64 0] 32 := X2.gr g3); (try have i0 := (cells4 X3).1); (try have i1 := (cells4 X3).2.1); (try have i2 := (cells4 X3).2.2.1); (try have i3 := (cells4 X3).2.2.2); (try have i4 := (free4 X3).1); (try have i5 := (free4 X3).2.1); (try have i6 := (free4 X3).2.2.1); (try have i7 := (free4 X3).2.2.2))))
    all_goals
      first
        | (have X8 : At a3 a2.heap.size #[.int .i64 0, .int .i64 0, .int .i64 0, .int .i64 0] 32 := X3; go_wp2; go_meet; exact ⟨_, rfl, X8.put4 (.int .i64 x0) (.int .i64 y0) (.int .i64 x1) (.int .i64 y1), B3.put4 (k := a2.heap.size) (Gr.size B2) _ _ _ _⟩)
        | (have X8 : At a3 a1.heap.size #[.int .i64 0, .int .i64 0, .int .i64 0, .int .i64 0] 32 := X3; go_wp2; go_meet; exact ⟨_, rfl, X8.put4 (.int .i64 x0) (.int .i64 y0) (.int .i64 x1) (.int .i64 y1), B3.put4 (k := a1.heap.size) (Gr.size B1) _ _ _ _⟩)
        | (have X8 : At a3 v2.heap.size #[.int .i64 0, .int .i64 0, .int .i64 0, .int .i64 0] 32 := X3; go_wp2; go_meet; exact ⟨_, rfl, X8.put4 (.int .i64 x0) (.int .i64 y0) (.int .i64 x1) (.int .i64 y1), B3.put4 (k := v2.heap.size) (Nat.le_refl _) _ _ _ _⟩)
        | (go_wp2; go_meet; exact ⟨_, rfl, At.new a3 #[.int .i64 x0, .int .i64 y0, .int .i64 x1, .int .i64 y1] 32, B3.alloc _⟩)
  case rest =>
    obtain ⟨kg, rfl, Y8, B8⟩ := hcut
    obtain ⟨w3, rfl⟩ : ∃ V : World, V = wc := ⟨_, rfl⟩
    have I3 := I2.gr B8
    have C3 := C1.gr B8
    have G3 := G0.gr B8
    have E3 := E0.gr B8
    have M3 := M1.gr B8
    clear SK M1 E0 I2 G0 B8 cs cc C1
    obtain ⟨k0, k1, k2, k3⟩ := cells4 Y8
    obtain ⟨e0, e1, e2, e3⟩ := cells4 E3
    go_wp2_with fail
    have R8 := At.new w3 #[.int .i64 ra, .int .i64 rb, .int .i64 rc, .int .i64 rd, .int .i64 x0, .int .i64 y0, .int .i64 x1, .int .i64 y1] 32
    have gA := (Gr.refl w3).alloc (.cells #[.int .i64 ra, .int .i64 rb, .int .i64 rc, .int .i64 rd, .int .i64 x0, .int .i64 y0, .int .i64 x1, .int .i64 y1] 32)
    have I4 := I3.gr gA
    have C4 := C3.gr gA
    have G4 := G3.gr gA
    have E4 := E3.gr gA
    have M4 := M3.gr gA
    have Y4 := Y8.gr gA
    obtain ⟨V0, hV0⟩ : ∃ V0, V0 = w3.alloc (.cells #[.int .i64 ra, .int .i64 rb, .int .i64 rc, .int .i64 rd, .int .i64 x0, .int .i64 y0, .int .i64 x1, .int .i64 y1] 32) := ⟨_, rfl⟩
    obtain ⟨al, hal⟩ : ∃ al, al = w3.heap.size := ⟨_, rfl⟩
    rw [← hV0] at R8 I4 C4 G4 E4 M4 Y4 ⊢
    rw [← hal] at R8 ⊢
    clear hV0 hal gA I3 C3 G3 E3 M3 Y8 k0 k1 k2 k3 e0 e1 e2 e3
    have hn1 : 1 ≤ n := by rw [hn.out]; exact Nat.mul_pos s1 t1
    have hFn : F.length = n := by rw [hFl.out, hn.out]
    replace hFn := Lib.hid hFn
    go_loopw [13] (fun i wr => ∃ k : Nat, k ≤ 2 ∧ i = .int .i64 (k : Int) ∧ Bl V0 wr) (fun i _ => 2 - (intOf i).toNat)
    case atStart => exact ⟨0, by omega, rfl, Bl.refl _⟩
    case round =>
      obtain ⟨k, hk, rfl, Bk⟩ := hrel
      by_cases hlt : k < 2
      · have q1 : (k : Int) < 2 := by omega
        have IQ : ∃ qa qb qc qd : Int, I64 qa ∧ I64 qb ∧ I64 qc ∧ I64 qd ∧ ∀ V, Bl V0 V → (V.cell? ⟨al, k * 4, none⟩ = some (.int .i64 qa) ∧ V.cell? ⟨al, k * 4 + 1, none⟩ = some (.int .i64 qb) ∧ V.cell? ⟨al, k * 4 + 2, none⟩ = some (.int .i64 qc) ∧ V.cell? ⟨al, k * 4 + 3, none⟩ = some (.int .i64 qd)) := by
          rcases (show k = 0 ∨ k = 1 by omega) with rfl | rfl
          · exact ⟨ra, rb, rc, rd, h1, h2, h3, h4, fun V g => ⟨(R8.bl g).cell 0, (R8.bl g).cell 1, (R8.bl g).cell 2, (R8.bl g).cell 3⟩⟩
          · exact ⟨x0, y0, x1, y1, by unfold I64; omega, by unfold I64; omega, by unfold I64; omega, by unfold I64; omega, fun V g => ⟨(R8.bl g).cell 4, (R8.bl g).cell 5, (R8.bl g).cell 6, (R8.bl g).cell 7⟩⟩
        obtain ⟨qa, qb, qc, qd, _, _, _, _, hQ⟩ := IQ
        have Ik := I4.bl Bk
        have Ck := C4.bl Bk
        have Mk := M4.bl Bk
        have SK : ∀ V, Bl wr V → (V.cell? ⟨bM, 0, none⟩ = some (.int .i64 W) ∧ V.cell? ⟨bM, 1, none⟩ = some (.int .i64 H) ∧ V.cell? ⟨bM, 2, none⟩ = some (.slice (some ⟨b, 0, none⟩) n n) ∧ V.cell? ⟨al, k * 4, none⟩ = some (.int .i64 qa) ∧ V.cell? ⟨al, k * 4 + 1, none⟩ = some (.int .i64 qb) ∧ V.cell? ⟨al, k * 4 + 2, none⟩ = some (.int .i64 qc) ∧ V.cell? ⟨al, k * 4 + 3, none⟩ = some (.int .i64 qd) ∧ Bl wr V) := fun V g => by
          obtain ⟨m0, m1, m2⟩ := cells3 (Mk.bl g)
          obtain ⟨r0, r1, r2, r3⟩ := hQ V (Bk.trans g)
          exact ⟨m0, m1, m2, r0, r1, r2, r3, g⟩
        obtain ⟨kq0, kq1, kq2, kq3⟩ := hQ wr Bk
        by_cases hin : (!emptyB qa qb qc qd && coversB 0 0 W H qa qb qc qd) = true
        · obtain ⟨a0, b0, a1, b1, rfl, rfl, rfl, rfl, ha, haW, hb', hbH⟩ := in_nat hin
          clear hin
          have hP8 := read_u8 (W := W) (x0 := a0) (x1 := a1) (ys := List.range' b0 (b1 - b0)) hF32
          obtain ⟨NN, hNN⟩ : ∃ N : Nat, N = (a1 - a0) * (b1 - b0) := ⟨_, rfl⟩
          have hPm := read_may (N := NN) hFl.out hFm ha haW hbH hNN
          have hPl : (readR W a0 a1 F (List.range' b0 (b1 - b0))).length = 4 * NN := by
            rw [readR_len W a0 a1 F (List.range' b0 (b1 - b0)) (fun y hy' => by
              have h3 := List.mem_range'_1.1 hy'
              have := row_of (show a1 - 1 < W by omega) (show y < H by omega)
              rw [hFl.out]; omega), List.length_range', hNN]
          have hPs : (strOfNums (readR W a0 a1 F (List.range' b0 (b1 - b0)))).size ≤ 1024 := by
            rw [strOfNums_size, hPl, hNN]
            have := Nat.mul_le_mul (show a1 - a0 ≤ 16 by omega) (show b1 - b0 ≤ 16 by omega)
            omega
          have cR := fun V (g : Bl wr V) => iread1c V (Ik.bl g) hF32 a0 b0 a1 b1 ha haW hb' hbH
          have cD := fun V (g : Bl wr V) => refread1 (c := n) V (Ck.bl g).rowC hFl.out hF32 (by omega) (by omega) a0 b0 a1 b1 ha haW hb' hbH
          have cW := fun V (po oc : Nat) (hI : Img V po oc W H (List.replicate n 0)) A c (hA : Ns .u8 V A (readR W a0 a1 F (List.range' b0 (b1 - b0)))) h1 h2 => iwrite1 V hI a0 b0 a1 b1 ha haW hb' hbH A _ c hA hP8 h1 h2 NN hNN hPl hPm
          have ws := write_solid (L := F) (Z := List.replicate n 0) hFl.out (by rw [List.length_replicate, hn.out]) hF32 s1 ha haW hb' hbH hNN
          have hc9 : cutR a0 b0 a1 b1 0 0 W H = ⟨a0, b0, a1, b1⟩ := by
            unfold cutR
            rw [if_neg (by simp [emptyB]; omega)]
            simp only [Rc.mk.injEq]
            omega
          have wl : (wrS W a0 (a1 - a0) (List.replicate n 0, colsL (readR W a0 a1 F (List.range' b0 (b1 - b0))) NN) (List.range' b0 (b1 - b0))).1.length = n := by rw [wrS_len]; simp
          have w32 : ∀ c ∈ (wrS W a0 (a1 - a0) (List.replicate n 0, colsL (readR W a0 a1 F (List.range' b0 (b1 - b0))) NN) (List.range' b0 (b1 - b0))).1, C32 c := fun c hc => by
            rcases wrS_mem _ _ _ _ _ c hc with h | h
            · rw [(List.mem_replicate.1 h).2]; unfold C32; omega
            · obtain ⟨j, hj, rfl⟩ := List.mem_map.1 h
              have := List.mem_range.1 hj
              exact colAt_c32 hP8 (by rw [hPl]; omega)
          generalize (wrS W a0 (a1 - a0) (List.replicate n 0, colsL (readR W a0 a1 F (List.range' b0 (b1 - b0))) NN) (List.range' b0 (b1 - b0))).1 = LW at *
          have cS1 := fun V (po oc : Nat) (hI : Img V po oc W H LW) => solid1 V hI w32 a0 b0 a1 b1 a0 a1 b0 b1 hc9 (fun _ => ha) haW (Nat.le_of_lt hb') hbH
          have cS2 := fun V (g : Bl wr V) => solid1 V (Ik.bl g) hF32 a0 b0 a1 b1 a0 a1 b0 b1 hc9 (fun _ => ha) haW (Nat.le_of_lt hb') hbH
          rw [ws] at cS1
          generalize allS W a0 a1 F (List.range' b0 (b1 - b0)) = sb at *
          generalize readR W a0 a1 F (List.range' b0 (b1 - b0)) = P at *
          have cT := fun V A c (h : Ns .u8 V A P) => Ns.text (c := c) h
          rw [hPl] at cR cD cW cT
          rw [hFn.out] at cD
          obtain ⟨pl, hpl⟩ : ∃ pl, pl = 4 * NN := ⟨_, rfl⟩
          rw [← hpl] at cR cD cW cT
          have hpl2 : pl ≤ 1024 := by rw [hpl, ← hPl, ← strOfNums_size]; exact hPs
          clear hPm hPl ws wl w32 hc9 hP8 hNN
          replace hpl := Lib.hid hpl
          generalize strOfNums P = TP at *
          replace cW := Lib.hid cW
          replace cS1 := Lib.hid cS1
          replace cS2 := Lib.hid cS2
          replace cD := Lib.hid cD
          replace cT := Lib.hid cT
          replace hQ := Lib.hid hQ
          go_wp2_with fail
          refine (cR _ (Bl.refl _)).mono ?_
          rintro e w5 ⟨A5, c5, rfl, N5, g5, hc5, hm5⟩
          clear cR kq0 kq1 kq2 kq3
          go_upto_region 11 with fail
          go_cut [16, 17] (fun s t wx => ∃ A6 c6, s = .slice A6 pl c6 ∧ t = .int .i64 0 ∧ Ns .u8 wx A6 P ∧ Bl w5 wx)
          case first =>
            have SK5 : ∀ V, Bl w5 V → (V.cell? ⟨bM, 0, none⟩ = some (.int .i64 W) ∧ V.cell? ⟨bM, 1, none⟩ = some (.int .i64 H) ∧ V.cell? ⟨bM, 2, none⟩ = some (.slice (some ⟨b, 0, none⟩) n n) ∧ V.cell? ⟨al, k * 4, none⟩ = some (.int .i64 a0) ∧ V.cell? ⟨al, k * 4 + 1, none⟩ = some (.int .i64 b0) ∧ V.cell? ⟨al, k * 4 + 2, none⟩ = some (.int .i64 a1) ∧ V.cell? ⟨al, k * 4 + 3, none⟩ = some (.int .i64 b1) ∧ Bl w5 V) := fun V g => by
              obtain ⟨m0, m1, m2, r0, r1, r2, r3, _⟩ := SK V (g5.trans g)
              exact ⟨m0, m1, m2, r0, r1, r2, r3, g⟩
            go_region_held3 (fun V => V.cell? ⟨bM, 0, none⟩ = some (.int .i64 W) ∧ V.cell? ⟨bM, 1, none⟩ = some (.int .i64 H) ∧ V.cell? ⟨bM, 2, none⟩ = some (.slice (some ⟨b, 0, none⟩) n n) ∧ V.cell? ⟨al, k * 4, none⟩ = some (.int .i64 a0) ∧ V.cell? ⟨al, k * 4 + 1, none⟩ = some (.int .i64 b0) ∧ V.cell? ⟨al, k * 4 + 2, none⟩ = some (.int .i64 a1) ∧ V.cell? ⟨al, k * 4 + 3, none⟩ = some (.int .i64 b1) ∧ Bl w5 V) ((refine SK5 _ ?_; repeat (first | with_reducible assumption | with_reducible exact Bl.refl _ | with_reducible exact (And.right (And.right (And.right (And.right (And.right (And.right (And.right (by assumption)))))))) | with_reducible exact Bl.trans (And.right (And.right (And.right (And.right (And.right (And.right (And.right (by assumption)))))))) (by assumption) | with_reducible exact Bl.gr (And.right (And.right (And.right (And.right (And.right (And.right (And.right (by assumption)))))))) (by assumption) | with_reducible apply Bl.drew | with_reducible apply Bl.alloc)))
              ((go_at_call 22; (refine (cD.out _ (g5.trans (And.right (And.right (And.right (And.right (And.right (And.right (And.right (by assumption)))))))))).mono ?_); rintro e v7 ⟨A6, c6, rfl, N6, g6⟩; have G7 : Bl w5 v7 := Bl.trans (And.right (And.right (And.right (And.right (And.right (And.right (And.right (by assumption)))))))) g6))
            all_goals
              go_wp2
              go_meet
              exact ⟨_, _, rfl, rfl, N6, G7⟩
          case rest =>
            obtain ⟨A6, c6, rfl, rfl, N6, g6⟩ := hcut
            obtain ⟨w6, rfl⟩ : ∃ V : World, V = wc := ⟨_, rfl⟩
            have N5' := N5.bl g6
            have T5 := cT.out _ _ c5 N5'
            have T6 := cT.out _ _ c6 N6
            obtain ⟨m0, m1, m2, kq0, kq1, kq2, kq3, _⟩ := SK w6 (g5.trans g6)
            go_wp2_with fail
            refine (refNew1 W H w6 (by omega) (by omega)).mono ?_
            rintro e w7 ⟨b7, rfl, Z7, hb7, g7⟩
            rw [← hn.out] at Z7 ⊢
            have cb2 := build1 (c := n) w7 Z7.rowC (by rw [List.length_replicate, hn.out]) s1 (by omega) t1 (by omega) (fun c hc => by rw [List.mem_replicate] at hc; rw [hc.2]; exact ⟨by unfold C32; omega, by decide⟩)
            rw [List.length_replicate] at cb2
            go_wp2_with fail
            refine cb2.mono ?_
            rintro e w8 ⟨po, oc, rfl, O8, hpo, hoc, g8⟩
            clear cb2 Z7
            have G8 : Bl wr w8 := (g5.trans g6).trans (g7.bl.trans g8)
            have N8 := N5'.bl (g7.bl.trans g8)
            clear m0 m1 m2 kq0 kq1 kq2 kq3 T5 T6 N6 N5 N5' SK
            have hpo' : wr.heap.size ≤ po := by have := g5.size; have := g6.size; have := g7.size; omega
            have hoc' : wr.heap.size ≤ oc := by have := g5.size; have := g6.size; have := g7.size; omega
            have SKc : ∀ V, Bl wr V → (V.cell? ⟨al, k * 4, none⟩ = some (.int .i64 a0) ∧ V.cell? ⟨al, k * 4 + 1, none⟩ = some (.int .i64 b0) ∧ V.cell? ⟨al, k * 4 + 2, none⟩ = some (.int .i64 a1) ∧ V.cell? ⟨al, k * 4 + 3, none⟩ = some (.int .i64 b1) ∧ Bl wr V) := fun V g => by
              obtain ⟨r0, r1, r2, r3⟩ := hQ.out V (Bk.trans g)
              exact ⟨r0, r1, r2, r3, g⟩
            obtain ⟨kq0, kq1, kq2, kq3⟩ := hQ.out w8 (Bk.trans G8)
            go_upto_region 17 with fail
            go_cut [101] (fun o wx => o = .bool false ∧ Bl wr wx)
            case first =>
              have D9 := G8.drew
              have O9 := O8.bl ((Bl.refl w8).drew)
              have N9 := N8.bl ((Bl.refl w8).drew)
              go_region_held3 (fun V => V.cell? ⟨al, k * 4, none⟩ = some (.int .i64 a0) ∧ V.cell? ⟨al, k * 4 + 1, none⟩ = some (.int .i64 b0) ∧ V.cell? ⟨al, k * 4 + 2, none⟩ = some (.int .i64 a1) ∧ V.cell? ⟨al, k * 4 + 3, none⟩ = some (.int .i64 b1) ∧ Bl wr V) ((refine SKc _ ?_; repeat (first | with_reducible assumption | with_reducible exact Bl.refl _ | with_reducible exact (And.right (And.right (And.right (And.right (by assumption))))) | with_reducible exact Bl.trans (And.right (And.right (And.right (And.right (by assumption))))) (by assumption) | with_reducible exact Bl.gr (And.right (And.right (And.right (And.right (by assumption))))) (by assumption) | with_reducible apply Bl.drew | with_reducible apply Bl.alloc)))
                ((first
                  | (go_at_call 15; (refine (cW.out _ po oc O9 _ _ N9 hc5 (by unfold maxLen; omega)).mono ?_); rintro e u1 ⟨rfl, y1', O1⟩; have K1 : Bl wr u1 := D9.row y1' (by omega))
                  | (go_at_call_of 24 (Value.pointer (some ⟨po, 0, none⟩)); (refine (cS1.out _ po oc O1).mono ?_); rintro e u2 ⟨rfl, y2'⟩; have K2 : Bl wr u2 := K1.trans y2')
                  | (go_at_call_of 24 (Value.pointer (some ⟨pm, 0, none⟩)); (refine (cS2.out _ K2).mono ?_); rintro e u3 ⟨rfl, y3'⟩; have K3 : Bl wr u3 := K2.trans y3')))
              all_goals
                go_wp2
                go_meet
                exact ⟨rfl, K3⟩
            case rest =>
              obtain ⟨rfl, gx⟩ := hcut
              go_wp2
              go_roundw
              case rel => exact ⟨k + 1, by omega, by simp, Bk.trans gx⟩
              case measure => simp [intOf]; omega
        · have hin' : (!emptyB qa qb qc qd && coversB 0 0 W H qa qb qc qd) = false := by simpa using hin
          have cR := fun V (g : Bl wr V) => iread0 V (Ik.bl g) qa qb qc qd hin'
          have cD := fun V => refread0 (W := W) (H := H) (b := b) (c := n) (n := n) V qa qb qc qd hin'
          go_wp2_with fail
          refine (cR _ (Bl.refl _)).mono ?_
          rintro e w5 ⟨rfl, g5⟩
          clear cR kq0 kq1 kq2 kq3
          go_upto_region 11 with fail
          go_cut [16, 17] (fun s t wx => s = .slice none 0 0 ∧ t = .int .i64 4 ∧ Bl w5 wx)
          case first =>
            have SK5 : ∀ V, Bl w5 V → (V.cell? ⟨bM, 0, none⟩ = some (.int .i64 W) ∧ V.cell? ⟨bM, 1, none⟩ = some (.int .i64 H) ∧ V.cell? ⟨bM, 2, none⟩ = some (.slice (some ⟨b, 0, none⟩) n n) ∧ V.cell? ⟨al, k * 4, none⟩ = some (.int .i64 qa) ∧ V.cell? ⟨al, k * 4 + 1, none⟩ = some (.int .i64 qb) ∧ V.cell? ⟨al, k * 4 + 2, none⟩ = some (.int .i64 qc) ∧ V.cell? ⟨al, k * 4 + 3, none⟩ = some (.int .i64 qd) ∧ Bl w5 V) := fun V g => by
              obtain ⟨m0, m1, m2, r0, r1, r2, r3, _⟩ := SK V (g5.bl.trans g)
              exact ⟨m0, m1, m2, r0, r1, r2, r3, g⟩
            go_region_held3 (fun V => V.cell? ⟨bM, 0, none⟩ = some (.int .i64 W) ∧ V.cell? ⟨bM, 1, none⟩ = some (.int .i64 H) ∧ V.cell? ⟨bM, 2, none⟩ = some (.slice (some ⟨b, 0, none⟩) n n) ∧ V.cell? ⟨al, k * 4, none⟩ = some (.int .i64 qa) ∧ V.cell? ⟨al, k * 4 + 1, none⟩ = some (.int .i64 qb) ∧ V.cell? ⟨al, k * 4 + 2, none⟩ = some (.int .i64 qc) ∧ V.cell? ⟨al, k * 4 + 3, none⟩ = some (.int .i64 qd) ∧ Bl w5 V) ((refine SK5 _ ?_; repeat (first | with_reducible assumption | with_reducible exact Bl.refl _ | with_reducible exact (And.right (And.right (And.right (And.right (And.right (And.right (And.right (by assumption)))))))) | with_reducible exact Bl.trans (And.right (And.right (And.right (And.right (And.right (And.right (And.right (by assumption)))))))) (by assumption) | with_reducible exact Bl.gr (And.right (And.right (And.right (And.right (And.right (And.right (And.right (by assumption)))))))) (by assumption) | with_reducible apply Bl.drew | with_reducible apply Bl.alloc)))
              ((go_at_call 22; (refine (cD _).mono ?_); rintro e v7 ⟨rfl, g6⟩; have G7 : Bl w5 v7 := Bl.gr (And.right (And.right (And.right (And.right (And.right (And.right (And.right (by assumption)))))))) g6))
            all_goals
              go_wp2
              go_meet
              exact ⟨rfl, rfl, G7⟩
          case rest =>
            obtain ⟨rfl, rfl, g6⟩ := hcut
            obtain ⟨w6, rfl⟩ : ∃ V : World, V = wc := ⟨_, rfl⟩
            have T5 := nil_text w6
            obtain ⟨m0, m1, m2, kq0, kq1, kq2, kq3, _⟩ := SK w6 (g5.bl.trans g6)
            go_wp2_with fail
            refine (refNew1 W H w6 (by omega) (by omega)).mono ?_
            rintro e w7 ⟨b7, rfl, Z7, hb7, g7⟩
            rw [← hn.out] at Z7 ⊢
            have cb2 := build1 (c := n) w7 Z7.rowC (by rw [List.length_replicate, hn.out]) s1 (by omega) t1 (by omega) (fun c hc => by rw [List.mem_replicate] at hc; rw [hc.2]; exact ⟨by unfold C32; omega, by decide⟩)
            rw [List.length_replicate] at cb2
            go_wp2_with fail
            refine cb2.mono ?_
            rintro e w8 ⟨po, oc, rfl, O8, hpo, hoc, g8⟩
            clear cb2 Z7
            have G8 : Bl wr w8 := (g5.bl.trans g6).trans (g7.bl.trans g8)
            clear m0 m1 m2 kq0 kq1 kq2 kq3 T5 SK
            go_upto_region 17 with fail
            go_cut [101] (fun o wx => o = .bool false ∧ Bl wr wx)
            case first =>
              refine wp_region_quiet_below (by kernel_rfl) (by kernel_rfl) ?_
              repeat (first | go_big_quiet_step (fail) | quiet_step (fail))
              refine wpQuiet_nil ?_
              intro _ hw'
              obtain ⟨⟨dq, osq⟩, hw'''⟩ := hw'
              subst hw'''
              go_wp2
              go_meet
              exact ⟨rfl, G8.trans (below_regrown w8 dq osq)⟩
            case rest =>
              obtain ⟨rfl, gx⟩ := hcut
              go_wp2
              go_roundw
              case rel => exact ⟨k + 1, by omega, by simp, Bk.trans gx⟩
              case measure => simp [intOf]; omega
      · obtain rfl : k = 2 := by omega
        obtain ⟨sb1, sm1, sr1⟩ := sol_both hFl.out hF32 s1 (by omega) (by omega) ra rb rc rd
        obtain ⟨sb2, sm2, sr2⟩ := sol_both hFl.out hF32 s1 (by omega) (by omega) x0 y0 x1 y1
        rw [hFn.out] at sr1 sr2
        have Ik := I4.bl Bk
        have Ck := C4.bl Bk
        have SKe : ∀ V, Bl wr V → (V.cell? ⟨bM, 0, none⟩ = some (.int .i64 W) ∧ V.cell? ⟨bM, 1, none⟩ = some (.int .i64 H) ∧ V.cell? ⟨bM, 2, none⟩ = some (.slice (some ⟨b, 0, none⟩) n n) ∧ V.cell? ⟨w.heap.size, 0, none⟩ = some (.int .i64 ra) ∧ V.cell? ⟨w.heap.size, 1, none⟩ = some (.int .i64 rb) ∧ V.cell? ⟨w.heap.size, 2, none⟩ = some (.int .i64 rc) ∧ V.cell? ⟨w.heap.size, 3, none⟩ = some (.int .i64 rd) ∧ V.cell? ⟨kg, 0, none⟩ = some (.int .i64 x0) ∧ V.cell? ⟨kg, 1, none⟩ = some (.int .i64 y0) ∧ V.cell? ⟨kg, 2, none⟩ = some (.int .i64 x1) ∧ V.cell? ⟨kg, 3, none⟩ = some (.int .i64 y1) ∧ Bl wr V) := fun V g => by
          obtain ⟨m0, m1, m2⟩ := cells3 ((M4.bl Bk).bl g)
          obtain ⟨e0, e1, e2, e3⟩ := cells4 ((E4.bl Bk).bl g)
          obtain ⟨y0', y1', y2', y3'⟩ := cells4 ((Y4.bl Bk).bl g)
          exact ⟨m0, m1, m2, e0, e1, e2, e3, y0', y1', y2', y3', g⟩
        go_upto_region 19 with fail
        go_cut [8] (fun o wx => o = .bool true ∧ Bl wr wx)
        case first =>
          go_region_held3 (fun V => V.cell? ⟨bM, 0, none⟩ = some (.int .i64 W) ∧ V.cell? ⟨bM, 1, none⟩ = some (.int .i64 H) ∧ V.cell? ⟨bM, 2, none⟩ = some (.slice (some ⟨b, 0, none⟩) n n) ∧ V.cell? ⟨w.heap.size, 0, none⟩ = some (.int .i64 ra) ∧ V.cell? ⟨w.heap.size, 1, none⟩ = some (.int .i64 rb) ∧ V.cell? ⟨w.heap.size, 2, none⟩ = some (.int .i64 rc) ∧ V.cell? ⟨w.heap.size, 3, none⟩ = some (.int .i64 rd) ∧ V.cell? ⟨kg, 0, none⟩ = some (.int .i64 x0) ∧ V.cell? ⟨kg, 1, none⟩ = some (.int .i64 y0) ∧ V.cell? ⟨kg, 2, none⟩ = some (.int .i64 x1) ∧ V.cell? ⟨kg, 3, none⟩ = some (.int .i64 y1) ∧ Bl wr V) ((refine SKe _ ?_; repeat (first | with_reducible assumption | with_reducible exact Bl.refl _ | with_reducible exact (And.right (And.right (And.right (And.right (And.right (And.right (And.right (And.right (And.right (And.right (And.right (by assumption)))))))))))) | with_reducible exact Bl.trans (And.right (And.right (And.right (And.right (And.right (And.right (And.right (And.right (And.right (And.right (And.right (by assumption)))))))))))) (by assumption) | with_reducible exact Bl.gr (And.right (And.right (And.right (And.right (And.right (And.right (And.right (And.right (And.right (And.right (And.right (by assumption)))))))))))) (by assumption) | with_reducible apply Bl.drew | with_reducible apply Bl.alloc)))
            ((first
              | (go_at_call_of 24 (Value.agg #[.int .i64 ra, .int .i64 rb, .int .i64 rc, .int .i64 rd]); (refine (sm1 _ pm pc (Ik.bl (And.right (And.right (And.right (And.right (And.right (And.right (And.right (And.right (And.right (And.right (And.right (by assumption)))))))))))))).mono ?_); rintro e u1 ⟨rfl, z1⟩; have K1 : Bl wr u1 := Bl.trans (And.right (And.right (And.right (And.right (And.right (And.right (And.right (And.right (And.right (And.right (And.right (by assumption)))))))))))) z1)
              | (go_at_call_of 25 (Value.agg #[.int .i64 ra, .int .i64 rb, .int .i64 rc, .int .i64 rd]); (refine (sr1 _ b n (Ck.bl (And.right (And.right (And.right (And.right (And.right (And.right (And.right (And.right (And.right (And.right (And.right (by assumption))))))))))))).rowC).mono ?_); rintro e u2 ⟨rfl, z2⟩; have K2 : Bl wr u2 := Bl.gr (And.right (And.right (And.right (And.right (And.right (And.right (And.right (And.right (And.right (And.right (And.right (by assumption)))))))))))) z2)
              | (go_at_call_of 24 (Value.agg #[.int .i64 x0, .int .i64 y0, .int .i64 x1, .int .i64 y1]); (refine (sm2 _ pm pc (Ik.bl (And.right (And.right (And.right (And.right (And.right (And.right (And.right (And.right (And.right (And.right (And.right (by assumption)))))))))))))).mono ?_); rintro e u3 ⟨rfl, z3⟩; have K3 : Bl wr u3 := Bl.trans (And.right (And.right (And.right (And.right (And.right (And.right (And.right (And.right (And.right (And.right (And.right (by assumption)))))))))))) z3)
              | (go_at_call_of 25 (Value.agg #[.int .i64 x0, .int .i64 y0, .int .i64 x1, .int .i64 y1]); (refine (sr2 _ b n (Ck.bl (And.right (And.right (And.right (And.right (And.right (And.right (And.right (And.right (And.right (And.right (And.right (by assumption))))))))))))).rowC).mono ?_); rintro e u4 ⟨rfl, z4⟩; have K4 : Bl wr u4 := Bl.gr (And.right (And.right (And.right (And.right (And.right (And.right (And.right (And.right (And.right (And.right (And.right (by assumption)))))))))))) z4)
              | (go_at_call 17; (refine (ilives1 _).mono ?_); rintro e u5 ⟨rfl, z5⟩; have K5 : Bl wr u5 := Bl.trans (And.right (And.right (And.right (And.right (And.right (And.right (And.right (And.right (And.right (And.right (And.right (by assumption)))))))))))) z5)))
          all_goals
            go_wp2
            go_meet
            exact ⟨rfl, K5⟩
        case rest =>
          obtain ⟨rfl, gx⟩ := hcut
          go_wp2
          go_ret
          exact ⟨rfl, G4.trans (Bk.trans gx)⟩

end Go.Proofs.Ytmaondghfncjoaa
