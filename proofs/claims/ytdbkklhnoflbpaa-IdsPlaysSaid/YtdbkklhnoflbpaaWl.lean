/-
  What is proved: the walk of the statement IdsPlays. No conditions.
-/
import Derived.Test.YtdbkklhnoflbpaaWk
import Derived.Deep.RegionHeld3
namespace Go.Proofs.Ytdbkklhnoflbpaa
open Go.ChangeShapes Go.WideShapes Go.ChangeAt Go.RowKit Go.Joins Go.Sort Go.Deep Go.Maps

theorem At.ne_ty {w : World} {a b : Nat} {cs ds : Array Value} {t u : TypeId} (h : At w a cs t) (k : At w b ds u) (hne : t ≠ u) : a ≠ b := by
  rintro rfl
  unfold At at h k
  rw [h] at k
  injection k with k
  injection k with _ k
  exact hne k
theorem Shp.Ow.ne_at {α : Type} {S : Shp α} {T : TypeId} {w : World} {B c : Nat} {A : Option Addr} {l : List α} (h : S.Ow T w B A c l) {b : Nat} {cs : Array Value} {t : TypeId} (k : At w b cs t) (hne : T ≠ t) : A = none ∨ A.map (·.block) ≠ some b := by
  rcases h.2 with ⟨h1, _⟩ | ⟨g, cap, cur, h1, _, h3, _⟩
  · injection h1 with h1; exact .inl h1
  · injection h1 with h1
    right
    rw [h1]
    intro e
    have : g = b := by simpa using e
    subst this
    unfold At at k
    rw [h3] at k
    injection k with k
    injection k with _ k
    exact hne k
theorem Shp.Ow.ne_map {α : Type} {S : Shp α} {T : TypeId} {w : World} {B c : Nat} {A : Option Addr} {l : List α} (h : S.Ow T w B A c l) {b : Nat} {L : List Ik} (k : Mp w b L) : A = none ∨ A.map (·.block) ≠ some b := by
  rcases h.2 with ⟨h1, _⟩ | ⟨g, cap, cur, h1, _, h3, _⟩
  · injection h1 with h1; exact .inl h1
  · injection h1 with h1
    right
    rw [h1]
    intro e
    have : g = b := by simpa using e
    subst this
    obtain ⟨es, clock, hb, _⟩ := k
    rw [h3] at hb
    cases hb
/-- The table, and the document's, as they lie between two deeds. -/
structure St (w0 w : World) (pa pb rb : Nat) (m : Int) (A : Option Addr) (c : Nat) (L : List Ik) : Prop where
  t : Tb w pa pb m L
  r : At w rb #[.int .i64 m, .slice A L.length c] 27
  own : OwK w w0.heap.size A c L
  g : Bl w0 w
  nb : w0.heap.size ≤ pb
  nr : w0.heap.size ≤ rb
theorem St.bl {w0 w w' : World} {pa pb rb c : Nat} {m : Int} {A : Option Addr} {L : List Ik} (h : St w0 w pa pb rb m A c L) (k : Bl w w') : St w0 w' pa pb rb m A c L :=
  ⟨h.t.bl k, h.r.bl k, h.own.bl k, h.g.trans k, h.nb, h.nr⟩
/-- The document's new list is stored. -/
theorem St.put {w0 w w' : World} {pa pb rb c : Nat} {m : Int} {A : Option Addr} {L : List Ik} (h : St w0 w pa pb rb m A c L) (k : Bl w w') {A2 : Option Addr} {c2 : Nat} {L2 : List Ik} (own2 : OwK w' w0.heap.size A2 c2 L2) :
    Tb ((w'.setCell ⟨rb, 0, none⟩ (.int .i64 m)).setCell ⟨rb, 1, none⟩ (.slice A2 L2.length c2)) pa pb m L ∧ At ((w'.setCell ⟨rb, 0, none⟩ (.int .i64 m)).setCell ⟨rb, 1, none⟩ (.slice A2 L2.length c2)) rb #[.int .i64 m, .slice A2 L2.length c2] 27 ∧
    OwK ((w'.setCell ⟨rb, 0, none⟩ (.int .i64 m)).setCell ⟨rb, 1, none⟩ (.slice A2 L2.length c2)) w0.heap.size A2 c2 L2 ∧ Bl w0 ((w'.setCell ⟨rb, 0, none⟩ (.int .i64 m)).setCell ⟨rb, 1, none⟩ (.slice A2 L2.length c2)) := by
  have t := h.t.bl k
  have r := h.r.bl k
  have hab : some pa ≠ some rb := fun e => t.hd.ne_ty r (by decide) (Option.some.inj e)
  have hbb : some pb ≠ some rb := fun e => t.mp.ne r (Option.some.inj e).symm
  have g1 : w'.grownBy (w'.setCell ⟨rb, 0, none⟩ (.int .i64 m)) (some rb) := By.set (p := ⟨rb, 0, none⟩) (By.refl w' _) _
  have g2 : (w'.setCell ⟨rb, 0, none⟩ (.int .i64 m)).grownBy ((w'.setCell ⟨rb, 0, none⟩ (.int .i64 m)).setCell ⟨rb, 1, none⟩ (.slice A2 L2.length c2)) (some rb) := By.set (p := ⟨rb, 1, none⟩) (By.refl _ _) _
  have o := own2.ne_at r (by decide)
  exact ⟨(t.by g1 hab hbb).by g2 hab hbb, (r.put 0 _).put 1 _, (own2.by g1 o).by g2 o, ((h.g.trans k).setCell (p := ⟨rb, 0, none⟩) h.nr _).setCell (p := ⟨rb, 1, none⟩) h.nr _⟩
/-- The table has been told the same. -/
theorem St.next {w0 V w4 : World} {pa pb rb c2 : Nat} {m : Int} {A2 : Option Addr} {L L2 : List Ik} (hb : w0.heap.size ≤ pb) (hr : w0.heap.size ≤ rb) (t : Tb V pa pb m L) (r : At V rb #[.int .i64 m, .slice A2 L2.length c2] 27)
    (own : OwK V w0.heap.size A2 c2 L2) (g : Bl w0 V) (t4 : Tb w4 pa pb m L2) (k : V.grownBy w4 (some pb)) : St w0 w4 pa pb rb m A2 c2 L2 :=
  ⟨t4, r.grown k (fun e => t.mp.ne r (Option.some.inj e)), own.by k (own.ne_map t.mp), g.grown k (fun j hj => by cases hj; exact hb), hb, hr⟩

section
attribute [local go_sem ↓] run_min2 run_max2
set_option maxRecDepth 100000 in
set_option maxHeartbeats 4000000 in
theorem plays_core (n0 : Int) (Ad : Option Addr) (cd : Nat) (D : List De) (w : World) (hD : shD.Rd w Ad D) (hDI : ∀ d ∈ D, I64d d) : Calls Try.prog 3 #[.int .i64 n0, .slice Ad D.length cd] w fun e w' => e = .returned (.bool true) ∧ Bl w w' := by
  have cn := fun V => idNew1 n0 V
  have cr := fun V => rNew1 n0 V
  have cl := fun V => idlives1 V
  obtain ⟨m, hm⟩ : ∃ m, m = mostN n0 := ⟨_, rfl⟩
  rw [← hm] at cn cr
  clear hm
  go_enter Try.func3, Try.ntmps3
  go_wp2_with fail
  refine (cn _).mono ?_
  rintro e w1 ⟨pa, pb, rfl, ha, hb, t1, g1⟩
  go_wp2_with fail
  refine (cr _).mono ?_
  rintro e w2 ⟨rfl, g2⟩
  have t2 := t1.bl g2.bl
  have G2 := g1.gr g2
  go_wp2
  have r3 := At.new w2 #[.int .i64 m, .slice none 0 0] 27
  have S3 : St w (w2.alloc (.cells #[.int .i64 m, .slice none 0 0] 27)) pa pb w2.heap.size m none 0 [] :=
    ⟨t2.bl ((Bl.refl _).alloc _), r3, Shp.Ow.nil _ _, G2.alloc _, hb, G2.size⟩
  obtain ⟨rb, hrb⟩ : ∃ rb, rb = w2.heap.size := ⟨_, rfl⟩
  rw [← hrb] at S3 ⊢
  clear cn cr t1 g1 t2 G2 r3 g2 ha hb hrb
  go_loopw [7, 8, 9, 10, 11, 12, 13] (fun iv _ _ _ _ _ _ wr => ∃ (j : Nat) (A : Option Addr) (c : Nat) (L : List Ik), j ≤ D.length ∧ iv = .int .i64 (j : Int) ∧ St w wr pa pb rb m A c L) (fun iv _ _ _ _ _ _ _ => D.length - (intOf iv).toNat)
  case atStart => exact ⟨0, none, 0, [], by omega, rfl, S3⟩
  case round =>
    clear S3
    obtain ⟨j, A, c, L, hj, rfl, S⟩ := hrel
    by_cases hlt : j < D.length ∧ j < 60
    · obtain ⟨hlt, hlt2⟩ := hlt
      obtain ⟨d, hd⟩ := list_at hlt
      obtain ⟨b, off, rfl, hrow⟩ := hD.opened (by omega)
      obtain ⟨e1, e2, e3⟩ := de_at (hrow.bl S.g) hd
      have hdI := hDI d (List.mem_of_getElem? hd)
      have hi64 := hdI.i
      have ho64 := hdI.o
      obtain ⟨dk, di, dq⟩ := d
      dsimp only at e1 e2 e3 hi64 ho64
      clear hdI
      replace hd := Lib.hid hd
      have bx := At.new wr #[.int .i64 dk, .int .i64 di, .int .i64 dq] 30
      have SX := S.bl ((Bl.refl wr).alloc (.cells #[.int .i64 dk, .int .i64 di, .int .i64 dq] 30))
      have hk : dk = 0 ∨ dk = 1 ∨ dk = 2 ∨ dk = 3 ∨ (dk ≠ 0 ∧ dk ≠ 1 ∧ dk ≠ 2 ∧ dk ≠ 3) := by omega
      rcases hk with rfl | rfl | rfl | rfl | hk
      · have r0 := SX.r.cell 0
        have r1 := SX.r.cell 1
        have cR := Lib.hid (rAdd1 SX.own (by have := SX.g.size; omega) m di dq SX.t.ok)
        have hok := SX.t.ok
        go_wp2_with fail
        refine cR.out.mono ?_
        rintro e w3 ⟨A2, c2, rfl, own30, k3⟩
        have own3 := own30.low (Nat.le_refl _)
        have k2 := k3.alloc (.cells #[.int .i64 m, .slice A2 (addL m L di dq).length c2] 27)
        have own2 := own3.bl ((Bl.refl w3).alloc (.cells #[.int .i64 m, .slice A2 (addL m L di dq).length c2] 27))
        obtain ⟨t4, r4, o4, g4⟩ := SX.put k2 own2
        have rr := SX.r.bl k2
        have rr0 := rr.cell 0
        have rr1 := rr.cell 1
        have rf0 := rr.free 0
        have rf1 := rr.free 1
        have b3 := bx.bl k2
        have hne : wr.heap.size ≠ rb := b3.ne_ty rr (by decide)
        have b6 := (b3.far (p := ⟨rb, 0, none⟩) hne (.int .i64 m)).far (p := ⟨rb, 1, none⟩) hne (.slice A2 (addL m L di dq).length c2)
        have b61 := b6.cell 1
        have b62 := b6.cell 2
        clear b3 b6
        have hnb := SX.nb
        have hnr := SX.nr
        clear r0 r1 cR rr k2 own2 own3 own30 k3
        go_wp2_with fail
        refine (idAdd1 t4 di dq hi64 ho64).mono ?_
        rintro e w5 ⟨rfl, t5, k5⟩
        have S5 := St.next hnb hnr t4 r4 o4 g4 t5 k5
        clear t4 r4 o4 g4 t5 k5 rr0 rr1 rf0 rf1 b61 b62 SX bx S
        have cL0 := fun dq os => Calls.grown (n := dq) (os := os) (idLen1 (S5.t.bl ((Bl.refl w5).drewN dq |>.grow os)))
        have cF0 := fun dq os => Calls.grown (n := dq) (os := os) (idFree1 (S5.t.bl ((Bl.refl w5).drewN dq |>.grow os)))
        have y00 := fun dq os => S5.r.cells dq os 0
        have y10 := fun dq os => S5.r.cells dq os 1
        have v0 : IntKind.i64.wrap (m - (((addL m L di dq)).length : Int)) = m - (((addL m L di dq)).length : Int) := IntWalk.i64_in _ (by have := S5.t.ok.most; have := S5.t.ok.m32; omega)
        go_wp2
        refine wp_region_quiet_grown (by kernel_rfl) (by kernel_rfl) ?_
        repeat (first | go_big_quiet_step (first | with_reducible exact cL0 _ _ | with_reducible exact cF0 _ _) | quiet_step (first | with_reducible exact cL0 _ _ | with_reducible exact cF0 _ _))
        refine wpQuiet_nil ?_
        intro w9 g9
        replace g9 : Gr _ w9 := g9
        go_wp2
        go_roundw
        case rel => exact ⟨j + 1, A2, c2, (addL m L di dq), by omega, by go_num, S5.bl g9.bl⟩
        case measure => simp [intOf]; omega
      · have cA := fun x os => Calls.grown (n := x) (os := os) (idFind1 (SX.t.bl ((Bl.refl _).drewN x |>.grow os)) di dq hi64)
        have cB := fun x os => Calls.grown (n := x) (os := os) (rFind1 (c := c) (SX.own.rd.bl ((Bl.refl _).drewN x |>.grow os)) m di dq SX.t.ok)
        have r0 := fun x os => SX.r.cells x os 0
        have r1 := fun x os => SX.r.cells x os 1
        have d1 := fun x os => bx.cells x os 1
        have d2 := fun x os => bx.cells x os 2
        go_wp2
        refine wp_region_quiet_grown (by kernel_rfl) (by kernel_rfl) ?_
        repeat (first | go_big_quiet_step (first | with_reducible exact cA _ _ | with_reducible exact cB _ _) | quiet_step (first | with_reducible exact cA _ _ | with_reducible exact cB _ _))
        refine wpQuiet_nil ?_
        intro w3 g3
        replace g3 : Gr _ w3 := g3
        have S3 := SX.bl g3.bl
        clear SX S g3 cA cB r0 r1 d1 d2 bx
        have cL1 := fun dq os => Calls.grown (n := dq) (os := os) (idLen1 (S3.t.bl ((Bl.refl w3).drewN dq |>.grow os)))
        have cF1 := fun dq os => Calls.grown (n := dq) (os := os) (idFree1 (S3.t.bl ((Bl.refl w3).drewN dq |>.grow os)))
        have y01 := fun dq os => S3.r.cells dq os 0
        have y11 := fun dq os => S3.r.cells dq os 1
        have v1 : IntKind.i64.wrap (m - ((L).length : Int)) = m - ((L).length : Int) := IntWalk.i64_in _ (by have := S3.t.ok.most; have := S3.t.ok.m32; omega)
        go_wp2
        refine wp_region_quiet_grown (by kernel_rfl) (by kernel_rfl) ?_
        repeat (first | go_big_quiet_step (first | with_reducible exact cL1 _ _ | with_reducible exact cF1 _ _) | quiet_step (first | with_reducible exact cL1 _ _ | with_reducible exact cF1 _ _))
        refine wpQuiet_nil ?_
        intro w9 g9
        replace g9 : Gr _ w9 := g9
        go_wp2
        go_roundw
        case rel => exact ⟨j + 1, A, c, L, by omega, by go_num, S3.bl g9.bl⟩
        case measure => simp [intOf]; omega
      · have r0 := SX.r.cell 0
        have r1 := SX.r.cell 1
        have cR := Lib.hid (rDrop1 (c := c) SX.own.rd m di SX.t.ok.len)
        have hok := SX.t.ok
        go_wp2_with fail
        refine cR.out.mono ?_
        rintro e w3 ⟨A2, c2, rfl, own30, k3⟩
        have own3 := own30.low SX.g.size
        have k2 := k3.alloc (.cells #[.int .i64 m, .slice A2 (dropL L di).length c2] 27)
        have own2 := own3.bl ((Bl.refl w3).alloc (.cells #[.int .i64 m, .slice A2 (dropL L di).length c2] 27))
        obtain ⟨t4, r4, o4, g4⟩ := SX.put k2 own2
        have rr := SX.r.bl k2
        have rr0 := rr.cell 0
        have rr1 := rr.cell 1
        have rf0 := rr.free 0
        have rf1 := rr.free 1
        have b3 := bx.bl k2
        have hne : wr.heap.size ≠ rb := b3.ne_ty rr (by decide)
        have b6 := (b3.far (p := ⟨rb, 0, none⟩) hne (.int .i64 m)).far (p := ⟨rb, 1, none⟩) hne (.slice A2 (dropL L di).length c2)
        have b61 := b6.cell 1
        have b62 := b6.cell 2
        clear b3 b6
        have hnb := SX.nb
        have hnr := SX.nr
        clear r0 r1 cR rr k2 own2 own3 own30 k3
        go_wp2_with fail
        refine (idDrop1 t4 di hi64).mono ?_
        rintro e w5 ⟨rfl, t5, k5⟩
        have S5 := St.next hnb hnr t4 r4 o4 g4 t5 k5
        clear t4 r4 o4 g4 t5 k5 rr0 rr1 rf0 rf1 b61 b62 SX bx S
        have cL2 := fun dq os => Calls.grown (n := dq) (os := os) (idLen1 (S5.t.bl ((Bl.refl w5).drewN dq |>.grow os)))
        have cF2 := fun dq os => Calls.grown (n := dq) (os := os) (idFree1 (S5.t.bl ((Bl.refl w5).drewN dq |>.grow os)))
        have y02 := fun dq os => S5.r.cells dq os 0
        have y12 := fun dq os => S5.r.cells dq os 1
        have v2 : IntKind.i64.wrap (m - (((dropL L di)).length : Int)) = m - (((dropL L di)).length : Int) := IntWalk.i64_in _ (by have := S5.t.ok.most; have := S5.t.ok.m32; omega)
        go_wp2
        refine wp_region_quiet_grown (by kernel_rfl) (by kernel_rfl) ?_
        repeat (first | go_big_quiet_step (first | with_reducible exact cL2 _ _ | with_reducible exact cF2 _ _) | quiet_step (first | with_reducible exact cL2 _ _ | with_reducible exact cF2 _ _))
        refine wpQuiet_nil ?_
        intro w9 g9
        replace g9 : Gr _ w9 := g9
        go_wp2
        go_roundw
        case rel => exact ⟨j + 1, A2, c2, (dropL L di), by omega, by go_num, S5.bl g9.bl⟩
        case measure => simp [intOf]; omega
      · have cA := fun x os => Calls.grown (n := x) (os := os) (idKind1 (SX.t.bl ((Bl.refl _).drewN x |>.grow os)) di hi64)
        have cB := fun x os => Calls.grown (n := x) (os := os) (rKind1 (c := c) (SX.own.rd.bl ((Bl.refl _).drewN x |>.grow os)) SX.t.ok.len m di)
        have r0 := fun x os => SX.r.cells x os 0
        have r1 := fun x os => SX.r.cells x os 1
        have d1 := fun x os => bx.cells x os 1
        have d2 := fun x os => bx.cells x os 2
        go_wp2
        refine wp_region_quiet_grown (by kernel_rfl) (by kernel_rfl) ?_
        repeat (first | go_big_quiet_step (first | with_reducible exact cA _ _ | with_reducible exact cB _ _) | quiet_step (first | with_reducible exact cA _ _ | with_reducible exact cB _ _))
        refine wpQuiet_nil ?_
        intro w3 g3
        replace g3 : Gr _ w3 := g3
        have S3 := SX.bl g3.bl
        clear SX S g3 cA cB r0 r1 d1 d2 bx
        have cL3 := fun dq os => Calls.grown (n := dq) (os := os) (idLen1 (S3.t.bl ((Bl.refl w3).drewN dq |>.grow os)))
        have cF3 := fun dq os => Calls.grown (n := dq) (os := os) (idFree1 (S3.t.bl ((Bl.refl w3).drewN dq |>.grow os)))
        have y03 := fun dq os => S3.r.cells dq os 0
        have y13 := fun dq os => S3.r.cells dq os 1
        have v3 : IntKind.i64.wrap (m - ((L).length : Int)) = m - ((L).length : Int) := IntWalk.i64_in _ (by have := S3.t.ok.most; have := S3.t.ok.m32; omega)
        go_wp2
        refine wp_region_quiet_grown (by kernel_rfl) (by kernel_rfl) ?_
        repeat (first | go_big_quiet_step (first | with_reducible exact cL3 _ _ | with_reducible exact cF3 _ _) | quiet_step (first | with_reducible exact cL3 _ _ | with_reducible exact cF3 _ _))
        refine wpQuiet_nil ?_
        intro w9 g9
        replace g9 : Gr _ w9 := g9
        go_wp2
        go_roundw
        case rel => exact ⟨j + 1, A, c, L, by omega, by go_num, S3.bl g9.bl⟩
        case measure => simp [intOf]; omega
      · obtain ⟨k0, k1, k2, k3⟩ := hk
        have e0 : (dk == 0) = false := by simpa using k0
        have e1' : (dk == 1) = false := by simpa using k1
        have e2' : (dk == 2) = false := by simpa using k2
        have e3' : (dk == 3) = false := by simpa using k3
        obtain ⟨W0, hW0⟩ : ∃ W, W = wr.alloc (.cells #[.int .i64 dk, .int .i64 di, .int .i64 dq] 30) := ⟨_, rfl⟩
        have cO := Lib.hid (fun V (g : Bl W0 V) => idOf1 (SX.t.bl (hW0 ▸ g)) dq)
        have cP := Lib.hid (fun V (g : Bl W0 V) => rOf1 (c := c) (SX.own.rd.bl (hW0 ▸ g)) m dq SX.t.ok.len)
        have SK := Lib.hid (fun V (g : Bl W0 V) => (show V.cell? ⟨wr.heap.size, 2, none⟩ = some (.int .i64 dq) ∧ V.cell? ⟨rb, 0, none⟩ = some (.int .i64 m) ∧ V.cell? ⟨rb, 1, none⟩ = some (.slice A L.length c) ∧ Bl W0 V from ⟨(bx.bl (hW0 ▸ g)).cell 2, (SX.r.bl (hW0 ▸ g)).cell 0, (SX.r.bl (hW0 ▸ g)).cell 1, g⟩))
        have hE : (ofL L dq).length ≤ 1000000 := by have := ofL_len L dq; have := SX.t.ok.len; omega
        have SX' : St w W0 pa pb rb m A c L := by rw [hW0]; exact SX
        clear k0 k1 k2 k3 SX S bx
        go_wp2
        rw [← hW0]
        replace hW0 := Lib.hid hW0
        go_region_held3 (fun V => V.cell? ⟨wr.heap.size, 2, none⟩ = some (.int .i64 dq) ∧ V.cell? ⟨rb, 0, none⟩ = some (.int .i64 m) ∧ V.cell? ⟨rb, 1, none⟩ = some (.slice A L.length c) ∧ Bl W0 V) ((refine SK.out _ ?_; repeat (first | with_reducible assumption | with_reducible exact Bl.refl _ | with_reducible exact G9 | with_reducible exact G8 | with_reducible exact G7 | with_reducible apply Bl.drew))) ((first | (go_at_call 19; (refine (cO.out _ (by first | with_reducible exact Bl.refl _ | with_reducible exact (Bl.refl _).drew)).mono ?_); rintro e V7 ⟨A7, c7, rfl, own7, g7⟩; have G7 : Bl W0 V7 := (Bl.refl W0).drew.trans g7) | (go_at_call 20; (refine (cP.out _ (by first | with_reducible exact G7 | with_reducible exact G7.drew)).mono ?_); rintro e V8 ⟨A8, c8, rfl, own8, g8⟩; have G8 : Bl W0 V8 := G7.trans g8) | (go_at_call 18; (refine (rSame1 (own7.rd.bl g8) own8.rd hE hE).mono ?_); rintro e V9 ⟨rfl, g9⟩; have G9 : Bl W0 V9 := G8.trans g9.bl) | fail))
        have S9 := SX'.bl G9
        clear SK cO cP SX' own7 own8 g7 g8 g9
        have cL4 := fun dq os => Calls.grown (n := dq) (os := os) (idLen1 (S9.t.bl ((Bl.refl V9).drewN dq |>.grow os)))
        have cF4 := fun dq os => Calls.grown (n := dq) (os := os) (idFree1 (S9.t.bl ((Bl.refl V9).drewN dq |>.grow os)))
        have y04 := fun dq os => S9.r.cells dq os 0
        have y14 := fun dq os => S9.r.cells dq os 1
        have v4 : IntKind.i64.wrap (m - ((L).length : Int)) = m - ((L).length : Int) := IntWalk.i64_in _ (by have := S9.t.ok.most; have := S9.t.ok.m32; omega)
        go_wp2
        refine wp_region_quiet_grown (by kernel_rfl) (by kernel_rfl) ?_
        repeat (first | go_big_quiet_step (first | with_reducible exact cL4 _ _ | with_reducible exact cF4 _ _) | quiet_step (first | with_reducible exact cL4 _ _ | with_reducible exact cF4 _ _))
        refine wpQuiet_nil ?_
        intro w9 g9
        replace g9 : Gr _ w9 := g9
        go_wp2
        go_roundw
        case rel => exact ⟨j + 1, A, c, L, by omega, by go_num, S9.bl g9.bl⟩
        case measure => simp [intOf]; omega
    · have hbd : (decide ((j : Int) < (D.length : Int)) = false ∧ ¬ (j : Int) < (D.length : Int)) ∨ (decide ((j : Int) < (D.length : Int)) = true ∧ decide ((j : Int) < 60) = false ∧ j < D.length) := by
        rcases (show j = D.length ∨ (j < D.length ∧ 60 ≤ j) by omega) with h | h
        · exact .inl ⟨by simp; omega, by omega⟩
        · exact .inr ⟨by simp; omega, by simp; omega, h.1⟩
      clear hlt
      have g := S.g
      replace hj := Lib.hid hj
      rcases hbd with ⟨h, h'⟩ | ⟨h, h', h''⟩
      all_goals
        go_wp2_with fail
        refine (cl _).mono ?_
        rintro e w3 ⟨rfl, k3⟩
        go_wp2
        go_ret
        exact ⟨rfl, g.trans k3⟩
end

end Go.Proofs.Ytdbkklhnoflbpaa
