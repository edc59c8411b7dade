/-
  What is proved: what Solid of package paint hands back. No conditions but bounds. how an argument that is a case of a layer is opened: the layer's parts, the sides, the colors. No conditions. what Box of the document's layers hands back. No conditions but bounds. what the document's example of layers comes to. No conditions. what Good of the document's layers hands back. No conditions but bounds. what the document's Good makes of a case, with all bounds at hand. No conditions but bounds. what the document's Clear and Draw of a layer hand back. No conditions but bounds. what the document's Clear and Draw of a layer hand back. No conditions but bounds. plain facts on what is drawn where nothing is seen, and on how many points of a cut box there are. No conditions but bounds.
-/
import Derived.Test.YtablogiielclaaaGreatZz14
import Derived.Test.YtablogiielclaaaGreatZz15
import Derived.Test.YtablogiielclaaaGreatZz10
import Derived.Test.YtablogiielclaaaGreatZz1
import Derived.Test.YtablogiielclaaaGreatZz13
import Derived.Test.YtablogiielclaaaGreatZz12
import Derived.Test.YtablogiielclaaaGreatZz11
import Derived.Test.YtablogiielclaaaGreatZz6
import Derived.Test.YtablogiielclaaaGreatZz9
import Derived.StillTailTactics
namespace Go.Proofs.YtablogiielclaaaGreat
open Go.RowKit Go.Sort

/-- What Solid tells. -/
def SoQ (cp : Rc) (W H : Nat) (F : List Int) (s ax ay al : Int) (LW M : List Rc) : Prop := (al ≠ 255 → M = []) ∧ (al = 255 → ∃ R S T, OfQ g256 g256 (cutL (ownR cp W H) LW) R ∧ (∀ x y, hasL S x y = (hasL R x y && (pA (atV W H F x y) == 255))) ∧ OfQ g256 g256 S T ∧ M = T.map (afR s ax ay))
theorem run_has {W H : Nat} {F : List Int} {R S : List Rc} (h : RunQ (fun x y => pA (atV W H F x y) == 255) (ptsL R) S) (x y : Int) : hasL S x y = (hasL R x y && (pA (atV W H F x y) == 255)) := by
  have h1 := h.has x y
  have h2 := ptsL_mem (R := R) (p := (x, y))
  dsimp only at h1 h2
  rw [h2] at h1
  rw [Bool.eq_iff_iff, Bool.and_eq_true]
  exact h1
theorem own_max {w : World} {B c : Nat} {A : Option Addr} {L : List Rc} (h : OwR w B A c L) : c ≤ 9223372036854775807 := by
  rcases h.2 with ⟨e, _⟩ | ⟨g, cap, cur, e, _, _, _, hcm, _⟩
  · injection e with _ _ e
    omega
  · injection e with _ _ e
    unfold maxLen at hcm
    omega
theorem run_ne {f : Int → Int → Bool} {ps : List (Int × Int)} {S : List Rc} (h : RunQ f ps S) : InNe g256 g256 S := fun r hr _ => by
  obtain ⟨h1, h2, h3, h4, h5, h6⟩ := h.flat r hr
  rw [g256_mem, g256_mem, g256_mem, g256_mem]
  omega

set_option maxRecDepth 100000 in
set_option maxHeartbeats 4000000 in
theorem psolid1X {pm pc W H : Nat} {L : List Int} {Sp : List Value} (ax ay s al : Int) (cp : Rc) (A : Option Addr) (c : Nat) (LW : List Rc) (w : World) (hI : ImgX w pm pc W H L Sp) (h32 : ∀ c ∈ L, C32 c) (hM : lyMay W H s al ax ay = true) (hA : Rs w A LW) (hl : LW.length ≤ 1000000) :
    Calls Tryz.prog 58 #[.agg #[.pointer (some ⟨pm, 0, none⟩), .int .i64 ax, .int .i64 ay, .int .i64 s, .int .i64 al, .int .i64 cp.a, .int .i64 cp.b, .int .i64 cp.c, .int .i64 cp.d], .slice A LW.length c] w (WQ w (SoQ cp W H L s ax ay al LW)) := by
  have hw2 := hI.w2
  have hh2 := hI.h2
  have ho := ownR_bd cp W H
  have hal : 0 ≤ al ∧ al ≤ 255 := by
    obtain ⟨_, _, h3, h4, _⟩ := lmay_bd hM
    exact ⟨h3, h4⟩
  have c1 := fun (w' : World) (g : Bl w w') => pclip1X ax ay s al cp w' (hI.bl g) hM
  have c2 := fun (w' : World) (g : Bl w w') => within1 (ownR cp W H) (by omega) A c LW w' hl (hA.bl g)
  have len2 : ∀ R, OfQ g256 g256 (cutL (ownR cp W H) LW) R → R.length ≤ 100000000 := fun R hQ => Nat.le_trans (reg_len hQ.reg hQ.inr grid256) (by decide)
  have hpt : ∀ R, OfQ g256 g256 (cutL (ownR cp W H) LW) R → ∀ x y, ((x, y) : Int × Int) ∈ ptsL R → InP W H (x, y) := fun R hQ x y h => by
    have h1 := ptsL_mem.1 h
    dsimp only at h1
    rw [own_in hQ] at h1
    have h3 := of_decide_eq_true (show decide (0 ≤ x ∧ x < (W : Int) ∧ 0 ≤ y ∧ y < (H : Int)) = true from (Bool.and_eq_true_iff.1 h1).1)
    exact ⟨h3.1, h3.2.1, h3.2.2.1, h3.2.2.2⟩
  have c3 := fun (w' : World) (g : Bl w w') (B0 : Nat) (A' : Option Addr) (c' : Nat) (R : List Rc) (hQ : OfQ g256 g256 (cutL (ownR cp W H) LW) R) (hR : OwR w' B0 A' c' R) => runs1X A' c' R w' (hI.bl g) h32 hR (fun r hr => by
    obtain ⟨q1, q2, q3, q4⟩ := hQ.inr r hr
    rw [g256_mem] at q1 q2 q3 q4
    omega) (len2 R hQ) (hpt R hQ) (reg_nodup hQ.reg)
  have c4 := fun (w' : World) (A' : Option Addr) (c' : Nat) (R S : List Rc) (hQ : OfQ g256 g256 (cutL (ownR cp W H) LW) R) (hS : RunQ (fun x y => pA (atV W H L x y) == 255) (ptsL R) S) (B0 : Nat) (hs : OwR w' B0 A' c' S) => by
    have hSl : S.length ≤ 100000 := Nat.le_trans hS.len (pts_len hI.w1 hw2 hh2 (reg_nodup hQ.reg) (fun p hp => hpt R hQ p.1 p.2 hp))
    exact of1 S.length A' c' S g256 g256 w' (Nat.le_refl _) (by omega) hs.cap (own_max hs) hs.rs grid256 (run_ne hS)
  have c5 := fun (w' : World) (A' : Option Addr) (c' : Nat) (R S T : List Rc) (hQ : OfQ g256 g256 (cutL (ownR cp W H) LW) R) (hS : RunQ (fun x y => pA (atV W H L x y) == 255) (ptsL R) S) (hT : OfQ g256 g256 S T) (hR : Rs w' A' T) => allOn1 (some ⟨pm, 0, none⟩) ax ay s al cp A' c' T w' hw2 hh2 hM hR (Nat.le_trans (reg_len hT.reg hT.inr grid256) (by decide)) (solid_box hQ (run_has hS) hT)
  have fin := fun (R S T M : List Rc) (hQ : OfQ g256 g256 (cutL (ownR cp W H) LW) R) (hS : RunQ (fun x y => pA (atV W H L x y) == 255) (ptsL R) S) (hT : OfQ g256 g256 S T) (h : M = T.map (afR s ax ay)) (ha : al = 255) => (show SoQ cp W H L s ax ay al LW M from ⟨fun h0 => absurd ha h0, fun _ => ⟨R, S, T, hQ, run_has hS, hT, h⟩⟩)
  have fin0 := fun (ha : al ≠ 255) => (show SoQ cp W H L s ax ay al LW [] from ⟨fun _ => rfl, fun h => absurd h ha⟩)
  generalize SoQ cp W H L s ax ay al LW = PQ at *
  replace c1 := Lib.hid c1
  replace c2 := Lib.hid c2
  replace c3 := Lib.hid c3
  replace c4 := Lib.hid c4
  replace c5 := Lib.hid c5
  replace fin := Lib.hid fin
  replace fin0 := Lib.hid fin0
  generalize ownR cp W H = q at *
  clear hM hA hI ho len2 hpt
  have B0 := At.new w #[.pointer (some ⟨pm, 0, none⟩), .int .i64 ax, .int .i64 ay, .int .i64 s, .int .i64 al, .int .i64 cp.a, .int .i64 cp.b, .int .i64 cp.c, .int .i64 cp.d] 65
  have g0 := (Bl.refl w).alloc (.cells #[.pointer (some ⟨pm, 0, none⟩), .int .i64 ax, .int .i64 ay, .int .i64 s, .int .i64 al, .int .i64 cp.a, .int .i64 cp.b, .int .i64 cp.c, .int .i64 cp.d] 65)
  have hw0 : w.heap.size < (w.alloc (.cells #[.pointer (some ⟨pm, 0, none⟩), .int .i64 ax, .int .i64 ay, .int .i64 s, .int .i64 al, .int .i64 cp.a, .int .i64 cp.b, .int .i64 cp.c, .int .i64 cp.d] 65)).heap.size := B0.lt
  have k3 := B0.cell 3
  go_enter Tryz.func58, Tryz.ntmps58
  by_cases ha : al = 255
  · subst ha
    replace fin := Lib.hid (fun R S T M h1 h2 h3 h4 => fin.out R S T M h1 h2 h3 h4 rfl)
    clear fin0
    go_upto_region 3 with fail
    obtain ⟨W0, hW0⟩ : ∃ W0, W0 = w.alloc (.cells #[.pointer (some ⟨pm, 0, none⟩), .int .i64 ax, .int .i64 ay, .int .i64 s, .int .i64 255, .int .i64 cp.a, .int .i64 cp.b, .int .i64 cp.c, .int .i64 cp.d] 65) := ⟨_, rfl⟩
    rw [← hW0] at B0 g0 hw0 ⊢
    clear hW0 k3
    replace c1 := Lib.hid (fun (V : World) (g : Bl W0 V) => c1.out V (g0.trans g))
    replace c2 := Lib.hid (fun (V : World) (g : Bl W0 V) => c2.out V (g0.trans g))
    replace c3 := Lib.hid (fun (V : World) (g : Bl W0 V) => c3.out V (g0.trans g))
    have SK := Lib.hid (fun (V : World) (g : Bl W0 V) => (show V.cell? ⟨w.heap.size, 0, none⟩ = some (.pointer (some ⟨pm, 0, none⟩)) ∧ V.cell? ⟨w.heap.size, 1, none⟩ = some (.int .i64 ax) ∧ V.cell? ⟨w.heap.size, 2, none⟩ = some (.int .i64 ay) ∧ V.cell? ⟨w.heap.size, 3, none⟩ = some (.int .i64 s) ∧ V.cell? ⟨w.heap.size, 4, none⟩ = some (.int .i64 255) ∧ V.cell? ⟨w.heap.size, 5, none⟩ = some (.int .i64 cp.a) ∧ V.cell? ⟨w.heap.size, 6, none⟩ = some (.int .i64 cp.b) ∧ V.cell? ⟨w.heap.size, 7, none⟩ = some (.int .i64 cp.c) ∧ V.cell? ⟨w.heap.size, 8, none⟩ = some (.int .i64 cp.d) ∧ Bl W0 V from ⟨(B0.bl g).cell 0, (B0.bl g).cell 1, (B0.bl g).cell 2, (B0.bl g).cell 3, (B0.bl g).cell 4, (B0.bl g).cell 5, (B0.bl g).cell 6, (B0.bl g).cell 7, (B0.bl g).cell 8, g⟩))
    clear B0
    go_region_held3 (fun V => V.cell? ⟨w.heap.size, 0, none⟩ = some (.pointer (some ⟨pm, 0, none⟩)) ∧ V.cell? ⟨w.heap.size, 1, none⟩ = some (.int .i64 ax) ∧ V.cell? ⟨w.heap.size, 2, none⟩ = some (.int .i64 ay) ∧ V.cell? ⟨w.heap.size, 3, none⟩ = some (.int .i64 s) ∧ V.cell? ⟨w.heap.size, 4, none⟩ = some (.int .i64 255) ∧ V.cell? ⟨w.heap.size, 5, none⟩ = some (.int .i64 cp.a) ∧ V.cell? ⟨w.heap.size, 6, none⟩ = some (.int .i64 cp.b) ∧ V.cell? ⟨w.heap.size, 7, none⟩ = some (.int .i64 cp.c) ∧ V.cell? ⟨w.heap.size, 8, none⟩ = some (.int .i64 cp.d) ∧ Bl W0 V) ((refine SK.out _ ?_; repeat (first | with_reducible assumption | with_reducible exact Bl.refl _ | with_reducible exact (And.right (And.right (And.right (And.right (And.right (And.right (And.right (And.right (And.right (by assumption)))))))))) | with_reducible exact Bl.trans (And.right (And.right (And.right (And.right (And.right (And.right (And.right (And.right (And.right (by assumption)))))))))) (by assumption) | with_reducible exact Bl.gr (And.right (And.right (And.right (And.right (And.right (And.right (And.right (And.right (And.right (by assumption)))))))))) (by assumption) | with_reducible apply Bl.drew | with_reducible apply Bl.alloc))) ((first | (go_at_call 131; (refine (c1.out _ (And.right (And.right (And.right (And.right (And.right (And.right (And.right (And.right (And.right (by assumption))))))))))).mono ?_); rintro e V1 ⟨rfl, g1⟩; have G1 : Bl W0 V1 := Bl.gr (And.right (And.right (And.right (And.right (And.right (And.right (And.right (And.right (And.right (by assumption)))))))))) g1) | (go_at_call 130; (refine (c2.out _ (And.right (And.right (And.right (And.right (And.right (And.right (And.right (And.right (And.right (by assumption))))))))))).mono ?_); rintro e V2 ⟨A2, k2, R2, rfl, _, o2, Q2, g2⟩; have G2 : Bl W0 V2 := Bl.trans (And.right (And.right (And.right (And.right (And.right (And.right (And.right (And.right (And.right (by assumption)))))))))) g2; replace Q2 := Lib.hid Q2; have O2 := Lib.hid o2; clear o2) | (go_at_call 132; (refine (c3.out _ (And.right (And.right (And.right (And.right (And.right (And.right (And.right (And.right (And.right (by assumption)))))))))) _ _ _ _ Q2.out (OwR.bl O2.out (by first | with_reducible exact Bl.refl _ | with_reducible exact (Bl.refl _).drew | with_reducible exact (Bl.refl _).drew.drew))).mono ?_); rintro e V3 ⟨A3, k3, S3, rfl, _, o3, Q3, g3⟩; have G3 : Bl W0 V3 := Bl.trans (And.right (And.right (And.right (And.right (And.right (And.right (And.right (And.right (And.right (by assumption)))))))))) g3; replace Q3 := Lib.hid Q3; have O3 := Lib.hid o3; clear o3) | (go_at_call 98; (refine (c4.out _ _ _ _ _ Q2.out Q3.out _ (OwR.bl O3.out (by first | with_reducible exact Bl.refl _ | with_reducible exact (Bl.refl _).drew | with_reducible exact (Bl.refl _).drew.drew))).mono ?_); rintro e V4 ⟨A4, k4, T4, rfl, o4, Q4, g4⟩; have G4 : Bl W0 V4 := Bl.trans (And.right (And.right (And.right (And.right (And.right (And.right (And.right (And.right (And.right (by assumption)))))))))) g4; replace Q4 := Lib.hid Q4; have O4 := Lib.hid o4; clear o4) | (go_at_call 129; (refine (c5.out _ _ _ _ _ _ Q2.out Q3.out Q4.out (Rs.bl O4.out.rs (by first | with_reducible exact Bl.refl _ | with_reducible exact (Bl.refl _).drew | with_reducible exact (Bl.refl _).drew.drew))).mono ?_); rintro e V5 ⟨A5, k5, M5, rfl, hc5, o5, Q5, g5⟩; have G5 : Bl W0 V5 := Bl.trans (And.right (And.right (And.right (And.right (And.right (And.right (And.right (And.right (And.right (by assumption)))))))))) g5; have z5 := Lib.hid (Nat.le_trans (Nat.le_of_lt hw0) (Bl.size (And.right (And.right (And.right (And.right (And.right (And.right (And.right (And.right (And.right (by assumption)))))))))))); have O5 := Lib.hid o5; have F5 := Lib.hid (fin.out _ _ _ _ Q2.out Q3.out Q4.out Q5); clear Q5 o5)))
    go_wp2
    go_ret
    exact ⟨A5, k5, M5, rfl, hc5, O5.out.base z5.out, F5.out, g0.trans G5⟩
  · go_wp2
    go_ret
    exact ⟨none, 0, [], rfl, Nat.le_refl _, OwR.nil _ _, fin0.out ha, g0⟩
theorem psolid1 {pm pc W H : Nat} {L : List Int} (ax ay s al : Int) (cp : Rc) (A : Option Addr) (c : Nat) (LW : List Rc) (w : World) (hI : Img w pm pc W H L) (h32 : ∀ c ∈ L, C32 c) (hM : lyMay W H s al ax ay = true) (hA : Rs w A LW) (hl : LW.length ≤ 1000000) :
    Calls Tryz.prog 58 #[.agg #[.pointer (some ⟨pm, 0, none⟩), .int .i64 ax, .int .i64 ay, .int .i64 s, .int .i64 al, .int .i64 cp.a, .int .i64 cp.b, .int .i64 cp.c, .int .i64 cp.d], .slice A LW.length c] w (WQ w (SoQ cp W H L s ax ay al LW)) :=
  psolid1X ax ay s al cp A c LW w hI.x h32 hM hA hl

end Go.Proofs.YtablogiielclaaaGreat
namespace Go.Proofs.YtablogiielclaaaGreat
open Go.ChangeShapes Go.WideShapes Go.ChangeAt Go.RowKit Go.Joins Go.Sort Go.Deep

theorem list15 {α : Type} {l : List α} (h : l.length = 15) : ∃ v0 v1 v2 v3 v4 v5 v6 v7 v8 v9 v10 v11 v12 v13 v14 : α, l = [v0, v1, v2, v3, v4, v5, v6, v7, v8, v9, v10, v11, v12, v13, v14] := by
  match l, h with
  | [v0, v1, v2, v3, v4, v5, v6, v7, v8, v9, v10, v11, v12, v13, v14], _ => exact ⟨v0, v1, v2, v3, v4, v5, v6, v7, v8, v9, v10, v11, v12, v13, v14, rfl⟩

section
variable {H : Type} {enc : TypeId × Value → H} {P : Program} {w : World} {base : Nat} {spare : Nat → Bool} {held : Bool}
theorem st_field {t : TypeId} {fs : Array Field} {fuel : Nat} {cs : List Value} {x : DataW H × List MemPlace} (ht : P.underlying t = some (.struct fs)) (h : DataW.trod enc P w base spare held fuel t cs = some x) {i : Nat} {f : Field} (hi : fs[i]? = some f) :
    ∃ n y, DataW.trod enc P w base spare held n f.type (List.take (P.cellsOf f.type) (List.drop f.offset cs)) = some y := by
  obtain ⟨xs, n, _, _, _, hl, hf⟩ := DataW.trod_struct ht h
  have := hf i f hi
  have hlt : i < fs.size := (Array.getElem?_eq_some_iff.1 hi).1
  rw [List.getElem?_eq_getElem (by omega)] at this
  exact ⟨n, _, this⟩
theorem st_int {t : TypeId} {k : IntKind} {fs : Array Field} {fuel : Nat} {cs : List Value} {x : DataW H × List MemPlace} (ht : P.underlying t = some (.struct fs)) (h : DataW.trod enc P w base spare held fuel t cs = some x) {i : Nat} {f : Field} (hi : fs[i]? = some f) (he : P.underlying f.type = some (.int k))
    {v : Value} (hv : List.take (P.cellsOf f.type) (List.drop f.offset cs) = [v]) : ∃ q : Int, v = .int k q ∧ (Lit.int k q).wf = true := by
  obtain ⟨n, y, hy⟩ := st_field ht h hi
  rw [hv] at hy
  obtain ⟨q, e0, _, wq⟩ := DataW.trod_int he hy
  simp at e0
  exact ⟨q, e0, wq⟩
end
section
variable {H : Type} {enc : TypeId × Value → H} {w : World} {base : Nat} {spare : Nat → Bool} {held : Bool}
set_option maxRecDepth 100000 in
theorem open_numsF {k : IntKind} {t e : TypeId} (ht : Tryz.prog.underlying t = some (.slice e)) (he : Tryz.prog.underlying e = some (.int k)) (hc1 : Tryz.prog.cellsOf e = 1) {fuel : Nat} {v : Value} {y : DataW H × List MemPlace} (hf : DataW.trod enc Tryz.prog w base spare held fuel t [v] = some y) :
    ∃ (A : Option Addr) (cap : Nat) (L : List Int), v = .slice A L.length cap ∧ L.length ≤ cap ∧ cap ≤ maxLen ∧ Ns k w A L ∧ ∀ x ∈ L, (Lit.int k x).wf = true := by
  rcases open_slice ht hf with ⟨hc, _⟩ | ⟨a, len0, cap0, m, n, D, Pl, hc, _, hl, hm, hmm, _, hx⟩
  · simp at hc
    subst hc
    exact ⟨none, 0, [], rfl, Nat.zero_le _, Nat.zero_le _, .inl rfl, by intro r hr; simp at hr⟩
  · simp at hc
    subst hc
    by_cases hz : len0 = 0
    · subst hz; exact ⟨_, _, [], rfl, Nat.zero_le _, hm, .inl rfl, by intro r hr; simp at hr⟩
    · have hlm : len0 ≤ m := by rw [hmm]; split <;> omega
      have each : ∀ i, i < m → ∃ q : Int, w.cell? (a.add i) = some (Value.int k q) ∧ (Lit.int k q).wf = true := by
        intro i hi
        obtain ⟨cs', h1, h2⟩ := hx i hi
        rw [hc1] at h1
        obtain ⟨_, hlen, hcell⟩ := World.cells?_some h1
        obtain ⟨q, e0, _, wq⟩ := DataW.trod_int he h2
        refine ⟨q, ?_, wq⟩
        have := hcell 0 (by omega)
        rw [add_add, e0] at this
        simpa using this
      obtain ⟨f, hfq⟩ := choose_lt each
      have h0 := (hfq 0 (by omega)).1
      obtain ⟨b, off, spot⟩ := a
      cases spot with
      | some t =>
        simp [Addr.add, World.cell?] at h0
        exfalso
        split at h0 <;> cases h0
      | none =>
        have ad : ∀ i, (⟨b, off, none⟩ : Addr).add i = ⟨b, off + i, none⟩ := fun i => by unfold Addr.add; split <;> simp_all
        refine ⟨some ⟨b, off, none⟩, cap0, (List.range len0).map f, by simp, by simpa using hl, hm, .inr ⟨b, off, rfl, fun k r hk => ?_⟩, fun r hr => ?_⟩
        · have hkl : k < ((List.range len0).map f).length := by
            rcases Nat.lt_or_ge k ((List.range len0).map f).length with h' | h'
            · exact h'
            · rw [List.getElem?_eq_none h'] at hk; cases hk
          simp at hkl
          simp [hkl] at hk
          subst hk
          have hk' := (hfq k (by omega)).1
          rwa [ad] at hk'
        · rw [List.mem_map] at hr
          obtain ⟨k, hk, rfl⟩ := hr
          rw [List.mem_range] at hk
          exact (hfq k (by omega)).2

/-- The numbers of a case's layer. -/
structure KOk (ax ay s al : Int) (cp : Rc) (cw ch : Int) : Prop where
  ax : I64 ax
  ay : I64 ay
  s : I64 s
  al : I64 al
  cw : I64 cw
  ch : I64 ch

theorem cells76 : Tryz.prog.cellsOf 124 = 12 := by kernel_rfl
theorem cells78 : Tryz.prog.cellsOf 126 = 15 := by kernel_rfl
theorem cells34 : Tryz.prog.cellsOf 27 = 3 := by kernel_rfl
theorem cells74 : Tryz.prog.cellsOf 29 = 2 := by kernel_rfl
theorem cellsI : Tryz.prog.cellsOf 3 = 1 := by kernel_rfl
theorem cellsBo : Tryz.prog.cellsOf 4 = 1 := by kernel_rfl
theorem cellsSl : Tryz.prog.cellsOf 25 = 1 := by kernel_rfl

set_option maxRecDepth 100000 in
set_option maxHeartbeats 2000000 in
theorem open_case {v : Value} {dd : DataW H} {p : List MemPlace} {b0 : Nat} {r : Reach} (hv : Value.okWide Tryz.prog w r b0 126 v) (h : DataW.Trod enc Tryz.prog w base spare held 126 v dd p) :
    ∃ (sm : Bool) (W0 H0 : Int) (A0 : Option Addr) (n0 c0 : Nat) (ax ay s al : Int) (cp : Rc) (cw ch : Int) (A : Option Addr) (cap : Nat) (L : List Int),
      v = .agg #[.bool sm, .int .i64 W0, .int .i64 H0, .slice A0 n0 c0, .int .i64 ax, .int .i64 ay, .int .i64 s, .int .i64 al, .int .i64 cp.a, .int .i64 cp.b, .int .i64 cp.c, .int .i64 cp.d, .int .i64 cw, .int .i64 ch, .slice A L.length cap] ∧
      KOk ax ay s al cp cw ch ∧ L.length ≤ cap ∧ cap ≤ maxLen ∧ Ns .u32 w A L ∧ ∀ x ∈ L, C32 x := by
  obtain ⟨cs, rfl, hsz⟩ := okWide_struct Tryz.underlying126 hv
  rw [cells78] at hsz
  obtain ⟨fuel, hf⟩ := h
  obtain ⟨l⟩ := cs
  simp only [List.size_toArray] at hsz
  obtain ⟨v0, v1, v2, v3, v4, v5, v6, v7, v8, v9, v10, v11, v12, v13, v14, rfl⟩ := list15 hsz
  simp only [Value.cells] at hf
  obtain ⟨n1, y1, hL⟩ := st_field Tryz.underlying126 hf (i := 0) rfl
  simp [cells76] at hL
  obtain ⟨cw, rfl, wcw⟩ := st_int Tryz.underlying126 hf (i := 1) rfl Tryz.underlying3 (v := v12) (by simp [cellsI])
  obtain ⟨ch, rfl, wch⟩ := st_int Tryz.underlying126 hf (i := 2) rfl Tryz.underlying3 (v := v13) (by simp [cellsI])
  obtain ⟨n2, y2, hS⟩ := st_field Tryz.underlying126 hf (i := 3) rfl
  simp [cellsSl] at hS
  obtain ⟨A, cap, L, rfl, l1, l2, l3, l4⟩ := open_numsF Tryz.underlying25 Tryz.underlying52 cellsCol hS
  obtain ⟨n3, y3, hB⟩ := st_field Tryz.underlying124 hL (i := 0) rfl
  simp [cellsBo] at hB
  obtain ⟨sm, e0, _⟩ := DataW.trod_bool Tryz.underlying4 hB
  simp at e0
  subst e0
  obtain ⟨n4, y4, hMM⟩ := st_field Tryz.underlying124 hL (i := 1) rfl
  simp [cells34] at hMM
  obtain ⟨n5, y5, hP⟩ := st_field Tryz.underlying124 hL (i := 2) rfl
  simp [cells74] at hP
  obtain ⟨s, rfl, ws⟩ := st_int Tryz.underlying124 hL (i := 3) rfl Tryz.underlying3 (v := v6) (by simp [cellsI])
  obtain ⟨al, rfl, wal⟩ := st_int Tryz.underlying124 hL (i := 4) rfl Tryz.underlying3 (v := v7) (by simp [cellsI])
  obtain ⟨n6, y6, hC⟩ := st_field Tryz.underlying124 hL (i := 5) rfl
  simp [cellsRect] at hC
  obtain ⟨W0, rfl, _⟩ := st_int Tryz.underlying27 hMM (i := 0) rfl Tryz.underlying3 (v := v1) (by simp [cellsI])
  obtain ⟨H0, rfl, _⟩ := st_int Tryz.underlying27 hMM (i := 1) rfl Tryz.underlying3 (v := v2) (by simp [cellsI])
  obtain ⟨n7, y7, hMS⟩ := st_field Tryz.underlying27 hMM (i := 2) rfl
  simp [cellsSl] at hMS
  obtain ⟨A0, n0, c0, e1⟩ := slice_form Tryz.underlying25 hMS
  simp at e1
  subst e1
  obtain ⟨ax, rfl, wax⟩ := st_int Tryz.underlying29 hP (i := 0) rfl Tryz.underlying3 (v := v4) (by simp [cellsI])
  obtain ⟨ay, rfl, way⟩ := st_int Tryz.underlying29 hP (i := 1) rfl Tryz.underlying3 (v := v5) (by simp [cellsI])
  obtain ⟨a, rfl, _⟩ := st_int Tryz.underlying31 hC (i := 0) rfl Tryz.underlying3 (v := v8) (by simp [cellsI])
  obtain ⟨b, rfl, _⟩ := st_int Tryz.underlying31 hC (i := 1) rfl Tryz.underlying3 (v := v9) (by simp [cellsI])
  obtain ⟨c, rfl, _⟩ := st_int Tryz.underlying31 hC (i := 2) rfl Tryz.underlying3 (v := v10) (by simp [cellsI])
  obtain ⟨d, rfl, _⟩ := st_int Tryz.underlying31 hC (i := 3) rfl Tryz.underlying3 (v := v11) (by simp [cellsI])
  exact ⟨sm, W0, H0, A0, n0, c0, ax, ay, s, al, ⟨a, b, c, d⟩, cw, ch, A, cap, L, rfl, ⟨I64.of_wf wax, I64.of_wf way, I64.of_wf ws, I64.of_wf wal, I64.of_wf wcw, I64.of_wf wch⟩, l1, l2, l3, fun x hx => U32.of_wf (l4 x hx)⟩
end

end Go.Proofs.YtablogiielclaaaGreat
namespace Go.Proofs.YtablogiielclaaaGreat
open Go.RowKit Go.Sort Go.Deep

set_option maxRecDepth 100000 in
set_option maxHeartbeats 4000000 in
theorem rbox1 (W H : Nat) (A : Option Addr) (n rc : Nat) (sm : Bool) (ax ay s al : Int) (cp : Rc) (w : World) (hW : W ≤ 256) (hH : H ≤ 256) (h1 : 1 ≤ s) (h8 : s ≤ 8) (hax : Bd ax) (hay : Bd ay) :
    Calls Tryz.prog 140 #[.agg #[.bool sm, .int .i64 W, .int .i64 H, .slice A n rc, .int .i64 ax, .int .i64 ay, .int .i64 s, .int .i64 al, .int .i64 cp.a, .int .i64 cp.b, .int .i64 cp.c, .int .i64 cp.d]] w (Rt w (.agg #[.int .i64 (lyBox cp W H s ax ay).a, .int .i64 (lyBox cp W H s ax ay).b, .int .i64 (lyBox cp W H s ax ay).c, .int .i64 (lyBox cp W H s ax ay).d])) := by
  have cC := fun w => refcutI1 cp.a cp.b cp.c cp.d 0 0 W H w
  rw [cutR_comm] at cC
  obtain ⟨o1, o2, o3, o4, o5, o6⟩ := ownR_bd cp W H
  have hq : cutR 0 0 W H cp.a cp.b cp.c cp.d = ownR cp W H := rfl
  rw [hq] at cC
  clear hq
  unfold lyBox lyE
  generalize ownR cp W H = q at *
  obtain ⟨q1, q2, q3, q4⟩ := q
  dsimp only at *
  have ce := fun w => refempty1 q1 q2 q3 q4 w
  generalize hX : (if emptyB q1 q2 q3 q4 = true then (⟨0, 0, 0, 0⟩ : Rc) else ⟨ax + q1 * s, ay + q2 * s, ax + q3 * s, ay + q4 * s⟩) = X
  obtain ⟨r1, r2, r3, r4⟩ := X
  dsimp only
  replace hX := Lib.hid hX
  have g := ((Gr.refl w).alloc (.cells #[.bool sm, .int .i64 W, .int .i64 H, .slice A n rc, .int .i64 ax, .int .i64 ay, .int .i64 s, .int .i64 al, .int .i64 cp.a, .int .i64 cp.b, .int .i64 cp.c, .int .i64 cp.d] 124)).alloc (.cells #[.int .i64 0, .int .i64 0, .int .i64 0, .int .i64 0] 31)
  have B0 := (At.new w #[.bool sm, .int .i64 W, .int .i64 H, .slice A n rc, .int .i64 ax, .int .i64 ay, .int .i64 s, .int .i64 al, .int .i64 cp.a, .int .i64 cp.b, .int .i64 cp.c, .int .i64 cp.d] 124).alloc (.cells #[.int .i64 0, .int .i64 0, .int .i64 0, .int .i64 0] 31)
  have R0 := At.newAt (w := w.alloc (.cells #[.bool sm, .int .i64 W, .int .i64 H, .slice A n rc, .int .i64 ax, .int .i64 ay, .int .i64 s, .int .i64 al, .int .i64 cp.a, .int .i64 cp.b, .int .i64 cp.c, .int .i64 cp.d] 124)) (n := w.heap.size + 1) (by simp) #[.int .i64 0, .int .i64 0, .int .i64 0, .int .i64 0] 31
  have mixed : Tryz.prog.follows .mixedOrders = true := by kernel_rfl
  go_enter Tryz.func140, Tryz.ntmps140
  go_wp2
  obtain ⟨v1, hV⟩ : ∃ V, V = (w.alloc (.cells #[.bool sm, .int .i64 W, .int .i64 H, .slice A n rc, .int .i64 ax, .int .i64 ay, .int .i64 s, .int .i64 al, .int .i64 cp.a, .int .i64 cp.b, .int .i64 cp.c, .int .i64 cp.d] 124)).alloc (.cells #[.int .i64 0, .int .i64 0, .int .i64 0, .int .i64 0] 31) := ⟨_, rfl⟩
  rw [← hV] at B0 R0 g ⊢
  clear hV
  obtain ⟨b, hb⟩ : ∃ b, b = w.heap.size := ⟨_, rfl⟩
  have hbb : w.heap.size ≤ b := by omega
  rw [← hb] at B0 R0 ⊢
  clear hb
  have SK : ∀ V, Gr v1 V → (V.cell? ⟨b, 0, none⟩ = some (.bool sm) ∧ V.cell? ⟨b, 1, none⟩ = some (.int .i64 W) ∧ V.cell? ⟨b, 2, none⟩ = some (.int .i64 H) ∧ V.cell? ⟨b, 3, none⟩ = some (.slice A n rc) ∧ V.cell? ⟨b, 4, none⟩ = some (.int .i64 ax) ∧ V.cell? ⟨b, 5, none⟩ = some (.int .i64 ay) ∧ V.cell? ⟨b, 6, none⟩ = some (.int .i64 s) ∧ V.cell? ⟨b, 7, none⟩ = some (.int .i64 al) ∧ V.cell? ⟨b, 8, none⟩ = some (.int .i64 cp.a) ∧ V.cell? ⟨b, 9, none⟩ = some (.int .i64 cp.b) ∧ V.cell? ⟨b, 10, none⟩ = some (.int .i64 cp.c) ∧ V.cell? ⟨b, 11, none⟩ = some (.int .i64 cp.d) ∧ Gr v1 V) := fun V g => ⟨(B0.gr g).cell 0, (B0.gr g).cell 1, (B0.gr g).cell 2, (B0.gr g).cell 3, (B0.gr g).cell 4, (B0.gr g).cell 5, (B0.gr g).cell 6, (B0.gr g).cell 7, (B0.gr g).cell 8, (B0.gr g).cell 9, (B0.gr g).cell 10, (B0.gr g).cell 11, g⟩
  go_region_held3 (fun V => V.cell? ⟨b, 0, none⟩ = some (.bool sm) ∧ V.cell? ⟨b, 1, none⟩ = some (.int .i64 W) ∧ V.cell? ⟨b, 2, none⟩ = some (.int .i64 H) ∧ V.cell? ⟨b, 3, none⟩ = some (.slice A n rc) ∧ V.cell? ⟨b, 4, none⟩ = some (.int .i64 ax) ∧ V.cell? ⟨b, 5, none⟩ = some (.int .i64 ay) ∧ V.cell? ⟨b, 6, none⟩ = some (.int .i64 s) ∧ V.cell? ⟨b, 7, none⟩ = some (.int .i64 al) ∧ V.cell? ⟨b, 8, none⟩ = some (.int .i64 cp.a) ∧ V.cell? ⟨b, 9, none⟩ = some (.int .i64 cp.b) ∧ V.cell? ⟨b, 10, none⟩ = some (.int .i64 cp.c) ∧ V.cell? ⟨b, 11, none⟩ = some (.int .i64 cp.d) ∧ Gr v1 V) ((refine SK _ ?_; repeat (first | with_reducible assumption | with_reducible exact Gr.refl _ | with_reducible exact (And.right (And.right (And.right (And.right (And.right (And.right (And.right (And.right (And.right (And.right (And.right (And.right (by assumption))))))))))))) | with_reducible exact Gr.trans (And.right (And.right (And.right (And.right (And.right (And.right (And.right (And.right (And.right (And.right (And.right (And.right (by assumption))))))))))))) (by assumption) | with_reducible apply Gr.drew | with_reducible apply Gr.alloc | (with_reducible refine Gr.st4 ?_ ?_ _ _ _ _; rotate_left; first | with_reducible exact Nat.le_refl _ | with_reducible exact Gr.size (by assumption) | omega))))
    ((first
      | (go_at_call 76; (refine (refBox1 _).mono ?_); rintro e v2 ⟨rfl, g2⟩; have G2 : Gr v1 v2 := Gr.trans (And.right (And.right (And.right (And.right (And.right (And.right (And.right (And.right (And.right (And.right (And.right (And.right (by assumption))))))))))))) g2; (try have X2 : At v2 v1.heap.size #[.int .i64 0, .int .i64 0, .int .i64 0, .int .i64 0] 31 := (At.new v1.drew _ _).gr g2); (try have X2 : At v2 v1.heap.size #[.int .i64 0, .int .i64 0, .int .i64 0, .int .i64 0] 31 := (At.new v1 _ _).gr g2); (try have k2 := cells4 X2); (try have f2 := free4 X2); (try obtain ⟨k20, k21, k22, k23⟩ := k2); (try obtain ⟨f20, f21, f22, f23⟩ := f2))
      | (go_at_call 199; (refine (cC _).mono ?_); rintro e v3 ⟨rfl, g3⟩; have G3 : Gr v1 v3 := Gr.trans (And.right (And.right (And.right (And.right (And.right (And.right (And.right (And.right (And.right (And.right (And.right (And.right (by assumption))))))))))))) g3; (try have X3 : At v3 v1.heap.size #[.int .i64 0, .int .i64 0, .int .i64 0, .int .i64 0] 31 := X2.gr g3); (try have X3 : At v3 v2.heap.size #[.int .i64 0, .int .i64 0, .int .i64 0, .int .i64 0] 31 := (At.new v2 _ _).gr g3); (try have X3 : At v3 v2.heap.size #[.int .i64 0, .int .i64 0, .int .i64 0, .int .i64 0] 31 := (At.new v2.drew _ _).gr g3); (try have k3 := cells4 X3); (try have f3 := free4 X3); (try obtain ⟨k30, k31, k32, k33⟩ := k3); (try obtain ⟨f30, f31, f32, f33⟩ := f3))))
  all_goals
    clear SK
    have hk3 : v1.heap.size ≤ v3.heap.size := G3.size
    have hk2 : v1.heap.size ≤ v2.heap.size := G2.size
    first
      | (have X8 : At v3 v2.heap.size #[.int .i64 0, .int .i64 0, .int .i64 0, .int .i64 0] 31 := X3; have Y8 := X8.put4 (.int .i64 q1) (.int .i64 q2) (.int .i64 q3) (.int .i64 q4); have B8 := G3.st4 (k := v2.heap.size) hk2 (.int .i64 q1) (.int .i64 q2) (.int .i64 q3) (.int .i64 q4); change Exit.then _ _ _ _ ((((v3.setCell ⟨v2.heap.size, 0, none⟩ (.int .i64 q1)).setCell ⟨v2.heap.size, 1, none⟩ (.int .i64 q2)).setCell ⟨v2.heap.size, 2, none⟩ (.int .i64 q3)).setCell ⟨v2.heap.size, 3, none⟩ (.int .i64 q4)); generalize ((((v3.setCell ⟨v2.heap.size, 0, none⟩ (.int .i64 q1)).setCell ⟨v2.heap.size, 1, none⟩ (.int .i64 q2)).setCell ⟨v2.heap.size, 2, none⟩ (.int .i64 q3)).setCell ⟨v2.heap.size, 3, none⟩ (.int .i64 q4)) = V at Y8 B8 ⊢; generalize v2.heap.size = bk at Y8 ⊢)
      | (have X8 : At v3 v1.heap.size #[.int .i64 0, .int .i64 0, .int .i64 0, .int .i64 0] 31 := X3; have Y8 := X8.put4 (.int .i64 q1) (.int .i64 q2) (.int .i64 q3) (.int .i64 q4); have B8 := G3.st4 (k := v1.heap.size) (Nat.le_refl _) (.int .i64 q1) (.int .i64 q2) (.int .i64 q3) (.int .i64 q4); change Exit.then _ _ _ _ ((((v3.setCell ⟨v1.heap.size, 0, none⟩ (.int .i64 q1)).setCell ⟨v1.heap.size, 1, none⟩ (.int .i64 q2)).setCell ⟨v1.heap.size, 2, none⟩ (.int .i64 q3)).setCell ⟨v1.heap.size, 3, none⟩ (.int .i64 q4)); generalize ((((v3.setCell ⟨v1.heap.size, 0, none⟩ (.int .i64 q1)).setCell ⟨v1.heap.size, 1, none⟩ (.int .i64 q2)).setCell ⟨v1.heap.size, 2, none⟩ (.int .i64 q3)).setCell ⟨v1.heap.size, 3, none⟩ (.int .i64 q4)) = V at Y8 B8 ⊢; generalize v1.heap.size = bk at Y8 ⊢)
      | (have Y8 := At.new v3 #[.int .i64 q1, .int .i64 q2, .int .i64 q3, .int .i64 q4] 31; have B8 := G3.alloc (.cells #[.int .i64 q1, .int .i64 q2, .int .i64 q3, .int .i64 q4] 31); generalize v3.alloc (.cells #[.int .i64 q1, .int .i64 q2, .int .i64 q3, .int .i64 q4] 31) = V at Y8 B8 ⊢; generalize v3.heap.size = bk at Y8 ⊢)
    have B9 := B0.gr B8
    have R9 := R0.gr B8
    have g9 := g.trans B8
    clear B0 R0 g B8 hk3 hk2
    obtain ⟨t0, t1, t2, t3⟩ := cells4 Y8
    cases e : emptyB q1 q2 q3 q4
    · have hX := hX.out
      rw [if_neg (by simp [e])] at hX
      injection hX with hx1 hx2 hx3 hx4
      rw [e] at ce
      obtain ⟨_, _, b1, b2, b3, b4, b5, b6, b7, b8⟩ := scale_box hW hH h1 h8 q1 q2 q3 q4 o1 o2 o3 o4 o5 o6
      rw [Int.mul_comm s q1] at b1 b2
      rw [Int.mul_comm s q3] at b2 b3
      rw [Int.mul_comm s q2] at b4 b5
      rw [Int.mul_comm s q4] at b5 b6
      obtain ⟨a1, a2⟩ := hax
      obtain ⟨a3, a4⟩ := hay
      obtain ⟨p1, hp1⟩ : ∃ p, p = q1 * s := ⟨_, rfl⟩
      obtain ⟨p2, hp2⟩ : ∃ p, p = q2 * s := ⟨_, rfl⟩
      obtain ⟨p3, hp3⟩ : ∃ p, p = q3 * s := ⟨_, rfl⟩
      obtain ⟨p4, hp4⟩ : ∃ p, p = q4 * s := ⟨_, rfl⟩
      rw [← hp1] at hx1
      rw [← hp2] at hx2
      rw [← hp3] at hx3
      rw [← hp4] at hx4
      subst hx1 hx2 hx3 hx4
      rw [← hp1] at b1 b2
      rw [← hp2] at b4 b5
      rw [← hp3] at b2 b3
      rw [← hp4] at b5 b6
      have n1 : wrap64 (q1 * s) = p1 := by rw [← hp1]; exact w64i (by omega) (by omega)
      have n2 : wrap64 (q2 * s) = p2 := by rw [← hp2]; exact w64i (by omega) (by omega)
      have n3 : wrap64 (q3 * s) = p3 := by rw [← hp3]; exact w64i (by omega) (by omega)
      have n4 : wrap64 (q4 * s) = p4 := by rw [← hp4]; exact w64i (by omega) (by omega)
      have n5 : wrap64 (ax + p1) = ax + p1 := w64i (by omega) (by omega)
      have n6 : wrap64 (ay + p2) = ay + p2 := w64i (by omega) (by omega)
      have n7 : wrap64 (ax + p3) = ax + p3 := w64i (by omega) (by omega)
      have n8 : wrap64 (ay + p4) = ay + p4 := w64i (by omega) (by omega)
      clear hp1 hp2 hp3 hp4 e o1 o2 o3 o4 o5 o6 b1 b2 b3 b4 b5 b6 b7 b8
      go_wp2_with fail
      refine (ce _).mono ?_
      rintro e v4 ⟨rfl, g4⟩
      replace B9 := B9.gr g4
      have R3 := R9.gr g4
      replace Y8 := Y8.gr g4
      replace g9 := g9.trans g4
      clear R9 g4 t0 t1 t2 t3 ce
      have x4 : v4.cell? ⟨b, 4, none⟩ = some (.int .i64 ax) := B9.cell 4
      have x5 : v4.cell? ⟨b, 5, none⟩ = some (.int .i64 ay) := B9.cell 5
      have x6 : v4.cell? ⟨b, 6, none⟩ = some (.int .i64 s) := B9.cell 6
      obtain ⟨t0, t1, t2, t3⟩ := cells4 Y8
      obtain ⟨k30, k31, k32, k33⟩ := cells4 R3
      obtain ⟨f30, f31, f32, f33⟩ := free4 R3
      go_wp2
      have k := R3.put4 (.int .i64 (ax + p1)) (.int .i64 (ay + p2)) (.int .i64 (ax + p3)) (.int .i64 (ay + p4))
      have G4 := g9.st4 (k := b + 1) (by omega) (.int .i64 (ax + p1)) (.int .i64 (ay + p2)) (.int .i64 (ax + p3)) (.int .i64 (ay + p4))
      generalize ((((v4.setCell ⟨b + 1, 0, none⟩ (.int .i64 (ax + p1))).setCell ⟨b + 1, 1, none⟩ (.int .i64 (ay + p2))).setCell ⟨b + 1, 2, none⟩ (.int .i64 (ax + p3))).setCell ⟨b + 1, 3, none⟩ (.int .i64 (ay + p4))) = V4 at *
      obtain ⟨d0, d1, d2, d3⟩ := cells4 k
      exact bodyPost_ret (v := .agg #[.int .i64 (ax + p1), .int .i64 (ay + p2), .int .i64 (ax + p3), .int .i64 (ay + p4)]) (by simp [results, Tryz.results140, go_sem, d0, d1, d2, d3]) rfl ⟨rfl, G4⟩
    · have hX := hX.out
      rw [if_pos e] at hX
      injection hX with hx1 hx2 hx3 hx4
      subst hx1 hx2 hx3 hx4
      rw [e] at ce
      clear e
      go_wp2_with fail
      refine (ce _).mono ?_
      rintro e v4 ⟨rfl, g4⟩
      have R3 := R9.gr g4
      replace g9 := g9.trans g4
      clear R9 g4 t0 t1 t2 t3 ce
      obtain ⟨k30, k31, k32, k33⟩ := cells4 R3
      obtain ⟨f30, f31, f32, f33⟩ := free4 R3
      go_wp2
      have k := R3.put4 (.int .i64 0) (.int .i64 0) (.int .i64 0) (.int .i64 0)
      have G4 := g9.st4 (k := b + 1) (by omega) (.int .i64 0) (.int .i64 0) (.int .i64 0) (.int .i64 0)
      generalize ((((v4.setCell ⟨b + 1, 0, none⟩ (.int .i64 0)).setCell ⟨b + 1, 1, none⟩ (.int .i64 0)).setCell ⟨b + 1, 2, none⟩ (.int .i64 0)).setCell ⟨b + 1, 3, none⟩ (.int .i64 0)) = V4 at *
      obtain ⟨d0, d1, d2, d3⟩ := cells4 k
      exact bodyPost_ret (v := .agg #[.int .i64 0, .int .i64 0, .int .i64 0, .int .i64 0]) (by simp [results, Tryz.results140, go_sem, d0, d1, d2, d3]) rfl ⟨rfl, G4⟩

end Go.Proofs.YtablogiielclaaaGreat
namespace Go.Proofs.YtablogiielclaaaGreat
open Go.RowKit Go.Sort Go.Deep

set_option maxHeartbeats 1000000 in
theorem plives1 (w : World) : Calls Tryz.prog 63 #[] w (fun e w' => e = .returned (.bool true) ∧ Gr w w') := by
  have cn := new1 2 2 w (by omega) (by omega) (by omega) (by omega)
  have cb := fun (pm pc : Nat) (w : World) (L : List Int) (h : Img w pm pc 2 2 L) => pbox1 3 3 2 255 ⟨0, 0, 2, 2⟩ w h (by simp [lyMay, inB])
  rw [show lyBox ⟨0, 0, 2, 2⟩ 2 2 2 3 3 = ⟨3, 3, 7, 7⟩ from by simp [lyBox, lyE, ownR, cutR, emptyB]] at cb
  dsimp only at cb
  go_enter Tryz.func63, Tryz.ntmps63
  go_wp2_with fail
  refine cn.mono ?_
  rintro e w1 ⟨pm, pc, rfl, I1, h1, h2, g1⟩
  go_wp2_with fail
  refine (cb pm pc _ _ I1).mono ?_
  rintro e w2 ⟨rfl, g2⟩
  go_wp2
  go_ret
  exact ⟨rfl, g1.trans g2⟩

end Go.Proofs.YtablogiielclaaaGreat
namespace Go.Proofs.YtablogiielclaaaGreat
open Go.RowKit Go.Sort Go.Deep

set_option maxRecDepth 100000 in
set_option maxHeartbeats 2000000 in
theorem lgood1 (x y : Int) (A : Option Addr) (ca : Nat) (a : List Int) (sm0 : Bool) (W0 H0 : Int) (A0 : Option Addr) (n0 c0 : Nat) (ax ay s al : Int) (cp : Rc) (w : World) (hA : Ns .u32 w A a) (h32 : ∀ c ∈ a, C32 c) (hca : a.length ≤ ca) (hcm : ca ≤ maxLen) (hx : I64 x) (hy : I64 y) (hax : I64 ax) (hay : I64 ay) (hs : I64 s) (hal : I64 al) :
    Calls Tryz.prog 52 #[.agg #[.bool sm0, .int .i64 W0, .int .i64 H0, .slice A0 n0 c0, .int .i64 ax, .int .i64 ay, .int .i64 s, .int .i64 al, .int .i64 cp.a, .int .i64 cp.b, .int .i64 cp.c, .int .i64 cp.d], .int .i64 x, .int .i64 y, .slice A a.length ca] w (fun e w' => ∃ rb, e = .returned (.agg #[.bool true, .int .i64 (side (around x 6) : Nat), .int .i64 (side (around y 6) : Nat), .slice (some ⟨rb, 0, none⟩) (side (around x 6) * side (around y 6)) (side (around x 6) * side (around y 6)), .int .i64 (around ax 24 - 6), .int .i64 (around ay 24 - 6), .int .i64 (1 + around s 3), .int .i64 (around al 256), .int .i64 cp.a, .int .i64 cp.b, .int .i64 cp.c, .int .i64 cp.d]) ∧
      At w' rb (cC (goodL (side (around x 6) * side (around y 6)) a)) 52 ∧ w.heap.size ≤ rb ∧ Bl w w') := by
  have c1 := fun w => around1 x 6 w hx (by omega)
  have c2 := fun w => around1 y 6 w hy (by omega)
  have c3 := fun w => around1 ax 24 w hax (by omega)
  have c4 := fun w => around1 ay 24 w hay (by omega)
  have c5 := fun w => around1 s 3 w hs (by omega)
  have c6 := fun w => around1 al 256 w hal (by omega)
  obtain ⟨u1, u2⟩ := around_bd x 6 (by omega)
  obtain ⟨u3, u4⟩ := around_bd y 6 (by omega)
  obtain ⟨u5, u6⟩ := around_bd ax 24 (by omega)
  obtain ⟨u7, u8⟩ := around_bd ay 24 (by omega)
  obtain ⟨u9, u10⟩ := around_bd s 3 (by omega)
  have cg := fun (w : World) (h : Ns .u32 w A a) => mgood1 (around x 6) (around y 6) A ca a w h h32 hca hcm (by unfold I64; omega) (by unfold I64; omega)
  generalize around x 6 = rx at *
  generalize around y 6 = ry at *
  generalize around ax 24 = r3 at *
  generalize around ay 24 = r4 at *
  generalize around s 3 = r5 at *
  generalize around al 256 = r6 at *
  generalize side rx = W at *
  generalize side ry = H at *
  generalize goodL (W * H) a = F at *
  generalize W * H = n at *
  generalize a.length = la at *
  have G := ((Gr.refl w).alloc (.cells #[.bool true, .int .i64 W0, .int .i64 H0, .slice A0 n0 c0, .int .i64 ax, .int .i64 ay, .int .i64 s, .int .i64 al, .int .i64 cp.a, .int .i64 cp.b, .int .i64 cp.c, .int .i64 cp.d] 124)).alloc (.cells #[.bool false, .int .i64 0, .int .i64 0, .slice none 0 0, .int .i64 0, .int .i64 0, .int .i64 0, .int .i64 0, .int .i64 0, .int .i64 0, .int .i64 0, .int .i64 0] 124)
  have B := (At.new w #[.bool true, .int .i64 W0, .int .i64 H0, .slice A0 n0 c0, .int .i64 ax, .int .i64 ay, .int .i64 s, .int .i64 al, .int .i64 cp.a, .int .i64 cp.b, .int .i64 cp.c, .int .i64 cp.d] 124).alloc (.cells #[.bool false, .int .i64 0, .int .i64 0, .slice none 0 0, .int .i64 0, .int .i64 0, .int .i64 0, .int .i64 0, .int .i64 0, .int .i64 0, .int .i64 0, .int .i64 0] 124)
  have R := At.newAt (w := w.alloc (.cells #[.bool true, .int .i64 W0, .int .i64 H0, .slice A0 n0 c0, .int .i64 ax, .int .i64 ay, .int .i64 s, .int .i64 al, .int .i64 cp.a, .int .i64 cp.b, .int .i64 cp.c, .int .i64 cp.d] 124)) (n := w.heap.size + 1) (by simp) #[.bool false, .int .i64 0, .int .i64 0, .slice none 0 0, .int .i64 0, .int .i64 0, .int .i64 0, .int .i64 0, .int .i64 0, .int .i64 0, .int .i64 0, .int .i64 0] 124
  have f1 : IntKind.i64.wrap (r3 - 6) = r3 - 6 := IntWalk.i64_in _ (by omega)
  have f2 : IntKind.i64.wrap (r4 - 6) = r4 - 6 := IntWalk.i64_in _ (by omega)
  go_enter Tryz.func52, Tryz.ntmps52
  go_wp2_with fail
  refine (c1 _).mono ?_
  rintro e v ⟨rfl, rfl⟩
  go_wp2_with fail
  refine (c2 _).mono ?_
  rintro e v ⟨rfl, rfl⟩
  go_wp2_with fail
  refine (cg _ (hA.bl G.bl)).mono ?_
  rintro e v1 ⟨rb, rfl, C1, hrb, g1⟩
  replace B := B.bl g1
  replace R := R.bl g1
  have GB := G.bl.trans g1
  simp at hrb
  clear g1 G c1 c2 cg hA
  obtain ⟨b, hb⟩ : ∃ b, b = w.heap.size := ⟨_, rfl⟩
  have hbb : w.heap.size ≤ b := by omega
  have hlb := B.lt
  rw [← hb] at B R hrb hlb ⊢
  clear hb
  have k0 : v1.cell? ⟨b, 1, none⟩ = some (.int .i64 W0) := B.cell 1
  have k1 : v1.cell? ⟨b, 2, none⟩ = some (.int .i64 H0) := B.cell 2
  have k2 : v1.cell? ⟨b, 3, none⟩ = some (.slice A0 n0 c0) := B.cell 3
  have k3 := B.free 1
  have k4 := B.free 2
  have k5 := B.free 3
  go_wp2
  have B1 := ((B.put 1 (.int .i64 W)).put 2 (.int .i64 H)).put 3 (.slice (some ⟨rb, 0, none⟩) n n)
  have R1 := ((R.far (p := ⟨b, 1, none⟩) (by simp) (.int .i64 W)).far (p := ⟨b, 2, none⟩) (by simp) (.int .i64 H)).far (p := ⟨b, 3, none⟩) (by simp) (.slice (some ⟨rb, 0, none⟩) n n)
  have C2 := ((C1.far (p := ⟨b, 1, none⟩) (by simp; omega) (.int .i64 W)).far (p := ⟨b, 2, none⟩) (by simp; omega) (.int .i64 H)).far (p := ⟨b, 3, none⟩) (by simp; omega) (.slice (some ⟨rb, 0, none⟩) n n)
  have G1 := ((GB.setCell (p := ⟨b, 1, none⟩) hbb (.int .i64 W)).setCell (p := ⟨b, 2, none⟩) hbb (.int .i64 H)).setCell (p := ⟨b, 3, none⟩) hbb (.slice (some ⟨rb, 0, none⟩) n n)
  generalize ((v1.setCell ⟨b, 1, none⟩ (.int .i64 W)).setCell ⟨b, 2, none⟩ (.int .i64 H)).setCell ⟨b, 3, none⟩ (.slice (some ⟨rb, 0, none⟩) n n) = V at *
  clear B R C1 GB k0 k1 k2 k3 k4 k5
  simp at B1
  have k4 : V.cell? ⟨b, 4, none⟩ = some (.int .i64 ax) := B1.cell 4
  have k5 : V.cell? ⟨b, 5, none⟩ = some (.int .i64 ay) := B1.cell 5
  have k6 := B1.free 4
  have k7 := B1.free 5
  go_still_tail 12, (by kernel_rfl)
  still_call ((c3 _).mono fun _ _ h => ⟨h.1, h.2.symm⟩)
  repeat still_step
  still_call ((c4 _).mono fun _ _ h => ⟨h.1, h.2.symm⟩)
  repeat still_step
  refine wpStill_nil ?_
  change wpList _ _ _ _ _ V.drew
  have k8 : (((V.setCell ⟨b, 4, none⟩ (.int .i64 (r3 - 6))).setCell ⟨b, 5, none⟩ (.int .i64 (r4 - 6)))).drew.cell? ⟨b, 6, none⟩ = some (.int .i64 s) := ((B1.put 4 (.int .i64 (r3 - 6))).put 5 (.int .i64 (r4 - 6))).drew.cell 6
  go_wp2_with fail
  have B2 := ((B1.put 4 (.int .i64 (r3 - 6))).put 5 (.int .i64 (r4 - 6))).drew
  have R2 := ((R1.far (p := ⟨b, 4, none⟩) (by simp) (.int .i64 (r3 - 6))).far (p := ⟨b, 5, none⟩) (by simp) (.int .i64 (r4 - 6))).drew
  have C3 := ((C2.far (p := ⟨b, 4, none⟩) (by simp; omega) (.int .i64 (r3 - 6))).far (p := ⟨b, 5, none⟩) (by simp; omega) (.int .i64 (r4 - 6))).drew
  have G2 := ((G1.setCell (p := ⟨b, 4, none⟩) hbb (.int .i64 (r3 - 6))).setCell (p := ⟨b, 5, none⟩) hbb (.int .i64 (r4 - 6))).drew
  clear k4 k5 k6 k7 k8 f1 f2
  generalize (((V.setCell ⟨b, 4, none⟩ (.int .i64 (r3 - 6))).setCell ⟨b, 5, none⟩ (.int .i64 (r4 - 6)))).drew = V2 at *
  clear B1 R1 C2 G1
  simp at B2
  refine (c5 _).mono ?_
  rintro e v ⟨rfl, rfl⟩
  have k4 : V2.cell? ⟨b, 6, none⟩ = some (.int .i64 s) := B2.cell 6
  have k5 := B2.free 6
  have k6 : (V2.setCell ⟨b, 6, none⟩ (.int .i64 (1 + r5))).cell? ⟨b, 7, none⟩ = some (.int .i64 al) := (B2.put 6 (.int .i64 (1 + r5))).cell 7
  go_wp2_with fail
  have B3 := B2.put 6 (.int .i64 (1 + r5))
  have R3 := R2.far (p := ⟨b, 6, none⟩) (by simp) (.int .i64 (1 + r5))
  have C4 := C3.far (p := ⟨b, 6, none⟩) (by simp; omega) (.int .i64 (1 + r5))
  have G3 := G2.setCell (p := ⟨b, 6, none⟩) hbb (.int .i64 (1 + r5))
  clear k4 k5 k6
  generalize (V2.setCell ⟨b, 6, none⟩ (.int .i64 (1 + r5))) = V3 at *
  clear B2 R2 C3 G2
  simp at B3
  refine (c6 _).mono ?_
  rintro e v ⟨rfl, rfl⟩
  have k4 : V3.cell? ⟨b, 7, none⟩ = some (.int .i64 al) := B3.cell 7
  have k5 := B3.free 7
  have B4 := B3.put 7 (.int .i64 r6)
  have R4 := R3.far (p := ⟨b, 7, none⟩) (by simp) (.int .i64 r6)
  have C5 := C4.far (p := ⟨b, 7, none⟩) (by simp; omega) (.int .i64 r6)
  have G4 := G3.setCell (p := ⟨b, 7, none⟩) hbb (.int .i64 r6)
  simp at B4
  have x0 : (V3.setCell ⟨b, 7, none⟩ (.int .i64 r6)).cell? ⟨b, 0, none⟩ = some (.bool true) := B4.cell 0
  have x1 : (V3.setCell ⟨b, 7, none⟩ (.int .i64 r6)).cell? ⟨b, 1, none⟩ = some (.int .i64 W) := B4.cell 1
  have x2 : (V3.setCell ⟨b, 7, none⟩ (.int .i64 r6)).cell? ⟨b, 2, none⟩ = some (.int .i64 H) := B4.cell 2
  have x3 : (V3.setCell ⟨b, 7, none⟩ (.int .i64 r6)).cell? ⟨b, 3, none⟩ = some (.slice (some ⟨rb, 0, none⟩) n n) := B4.cell 3
  have x4 : (V3.setCell ⟨b, 7, none⟩ (.int .i64 r6)).cell? ⟨b, 4, none⟩ = some (.int .i64 (r3 - 6)) := B4.cell 4
  have x5 : (V3.setCell ⟨b, 7, none⟩ (.int .i64 r6)).cell? ⟨b, 5, none⟩ = some (.int .i64 (r4 - 6)) := B4.cell 5
  have x6 : (V3.setCell ⟨b, 7, none⟩ (.int .i64 r6)).cell? ⟨b, 6, none⟩ = some (.int .i64 (1 + r5)) := B4.cell 6
  have x7 : (V3.setCell ⟨b, 7, none⟩ (.int .i64 r6)).cell? ⟨b, 7, none⟩ = some (.int .i64 r6) := B4.cell 7
  have x8 : (V3.setCell ⟨b, 7, none⟩ (.int .i64 r6)).cell? ⟨b, 8, none⟩ = some (.int .i64 cp.a) := B4.cell 8
  have x9 : (V3.setCell ⟨b, 7, none⟩ (.int .i64 r6)).cell? ⟨b, 9, none⟩ = some (.int .i64 cp.b) := B4.cell 9
  have x10 : (V3.setCell ⟨b, 7, none⟩ (.int .i64 r6)).cell? ⟨b, 10, none⟩ = some (.int .i64 cp.c) := B4.cell 10
  have x11 : (V3.setCell ⟨b, 7, none⟩ (.int .i64 r6)).cell? ⟨b, 11, none⟩ = some (.int .i64 cp.d) := B4.cell 11
  have y0 : (V3.setCell ⟨b, 7, none⟩ (.int .i64 r6)).cell? ⟨b + 1, 0, none⟩ = some (.bool false) := R4.cell 0
  have y1 : (V3.setCell ⟨b, 7, none⟩ (.int .i64 r6)).cell? ⟨b + 1, 1, none⟩ = some (.int .i64 0) := R4.cell 1
  have y2 : (V3.setCell ⟨b, 7, none⟩ (.int .i64 r6)).cell? ⟨b + 1, 2, none⟩ = some (.int .i64 0) := R4.cell 2
  have y3 : (V3.setCell ⟨b, 7, none⟩ (.int .i64 r6)).cell? ⟨b + 1, 3, none⟩ = some (.slice none 0 0) := R4.cell 3
  have y4 : (V3.setCell ⟨b, 7, none⟩ (.int .i64 r6)).cell? ⟨b + 1, 4, none⟩ = some (.int .i64 0) := R4.cell 4
  have y5 : (V3.setCell ⟨b, 7, none⟩ (.int .i64 r6)).cell? ⟨b + 1, 5, none⟩ = some (.int .i64 0) := R4.cell 5
  have y6 : (V3.setCell ⟨b, 7, none⟩ (.int .i64 r6)).cell? ⟨b + 1, 6, none⟩ = some (.int .i64 0) := R4.cell 6
  have y7 : (V3.setCell ⟨b, 7, none⟩ (.int .i64 r6)).cell? ⟨b + 1, 7, none⟩ = some (.int .i64 0) := R4.cell 7
  have y8 : (V3.setCell ⟨b, 7, none⟩ (.int .i64 r6)).cell? ⟨b + 1, 8, none⟩ = some (.int .i64 0) := R4.cell 8
  have y9 : (V3.setCell ⟨b, 7, none⟩ (.int .i64 r6)).cell? ⟨b + 1, 9, none⟩ = some (.int .i64 0) := R4.cell 9
  have y10 : (V3.setCell ⟨b, 7, none⟩ (.int .i64 r6)).cell? ⟨b + 1, 10, none⟩ = some (.int .i64 0) := R4.cell 10
  have y11 : (V3.setCell ⟨b, 7, none⟩ (.int .i64 r6)).cell? ⟨b + 1, 11, none⟩ = some (.int .i64 0) := R4.cell 11
  have z0 := R4.free 0
  have z1 := R4.free 1
  have z2 := R4.free 2
  have z3 := R4.free 3
  have z4 := R4.free 4
  have z5 := R4.free 5
  have z6 := R4.free 6
  have z7 := R4.free 7
  have z8 := R4.free 8
  have z9 := R4.free 9
  have z10 := R4.free 10
  have z11 := R4.free 11
  go_wp2
  have R5 := ((((((((((((R4.put 0 (.bool true)).put 1 (.int .i64 W)).put 2 (.int .i64 H)).put 3 (.slice (some ⟨rb, 0, none⟩) n n)).put 4 (.int .i64 (r3 - 6))).put 5 (.int .i64 (r4 - 6))).put 6 (.int .i64 (1 + r5))).put 7 (.int .i64 r6)).put 8 (.int .i64 cp.a)).put 9 (.int .i64 cp.b)).put 10 (.int .i64 cp.c)).put 11 (.int .i64 cp.d))
  have G5 := ((((((((((((G4.setCell (p := ⟨b + 1, 0, none⟩) (by simp; omega) (.bool true)).setCell (p := ⟨b + 1, 1, none⟩) (by simp; omega) (.int .i64 W)).setCell (p := ⟨b + 1, 2, none⟩) (by simp; omega) (.int .i64 H)).setCell (p := ⟨b + 1, 3, none⟩) (by simp; omega) (.slice (some ⟨rb, 0, none⟩) n n)).setCell (p := ⟨b + 1, 4, none⟩) (by simp; omega) (.int .i64 (r3 - 6))).setCell (p := ⟨b + 1, 5, none⟩) (by simp; omega) (.int .i64 (r4 - 6))).setCell (p := ⟨b + 1, 6, none⟩) (by simp; omega) (.int .i64 (1 + r5))).setCell (p := ⟨b + 1, 7, none⟩) (by simp; omega) (.int .i64 r6)).setCell (p := ⟨b + 1, 8, none⟩) (by simp; omega) (.int .i64 cp.a)).setCell (p := ⟨b + 1, 9, none⟩) (by simp; omega) (.int .i64 cp.b)).setCell (p := ⟨b + 1, 10, none⟩) (by simp; omega) (.int .i64 cp.c)).setCell (p := ⟨b + 1, 11, none⟩) (by simp; omega) (.int .i64 cp.d))
  have C6 := ((((((((((((C5.far (p := ⟨b + 1, 0, none⟩) (by simp; omega) (.bool true)).far (p := ⟨b + 1, 1, none⟩) (by simp; omega) (.int .i64 W)).far (p := ⟨b + 1, 2, none⟩) (by simp; omega) (.int .i64 H)).far (p := ⟨b + 1, 3, none⟩) (by simp; omega) (.slice (some ⟨rb, 0, none⟩) n n)).far (p := ⟨b + 1, 4, none⟩) (by simp; omega) (.int .i64 (r3 - 6))).far (p := ⟨b + 1, 5, none⟩) (by simp; omega) (.int .i64 (r4 - 6))).far (p := ⟨b + 1, 6, none⟩) (by simp; omega) (.int .i64 (1 + r5))).far (p := ⟨b + 1, 7, none⟩) (by simp; omega) (.int .i64 r6)).far (p := ⟨b + 1, 8, none⟩) (by simp; omega) (.int .i64 cp.a)).far (p := ⟨b + 1, 9, none⟩) (by simp; omega) (.int .i64 cp.b)).far (p := ⟨b + 1, 10, none⟩) (by simp; omega) (.int .i64 cp.c)).far (p := ⟨b + 1, 11, none⟩) (by simp; omega) (.int .i64 cp.d))
  clear x0 x1 x2 x3 x4 x5 x6 x7 x8 x9 x10 x11 y0 y1 y2 y3 y4 y5 y6 y7 y8 y9 y10 y11 z0 z1 z2 z3 z4 z5 z6 z7 z8 z9 z10 z11 k4 k5
  generalize (((((((((((((V3.setCell ⟨b, 7, none⟩ (.int .i64 r6)).setCell ⟨b + 1, 0, none⟩ (.bool true)).setCell ⟨b + 1, 1, none⟩ (.int .i64 W)).setCell ⟨b + 1, 2, none⟩ (.int .i64 H)).setCell ⟨b + 1, 3, none⟩ (.slice (some ⟨rb, 0, none⟩) n n)).setCell ⟨b + 1, 4, none⟩ (.int .i64 (r3 - 6))).setCell ⟨b + 1, 5, none⟩ (.int .i64 (r4 - 6))).setCell ⟨b + 1, 6, none⟩ (.int .i64 (1 + r5))).setCell ⟨b + 1, 7, none⟩ (.int .i64 r6)).setCell ⟨b + 1, 8, none⟩ (.int .i64 cp.a)).setCell ⟨b + 1, 9, none⟩ (.int .i64 cp.b)).setCell ⟨b + 1, 10, none⟩ (.int .i64 cp.c)).setCell ⟨b + 1, 11, none⟩ (.int .i64 cp.d)) = V5 at *
  simp at R5
  have d0 : V5.cell? ⟨b + 1, 0, none⟩ = some (.bool true) := R5.cell 0
  have d1 : V5.cell? ⟨b + 1, 1, none⟩ = some (.int .i64 W) := R5.cell 1
  have d2 : V5.cell? ⟨b + 1, 2, none⟩ = some (.int .i64 H) := R5.cell 2
  have d3 : V5.cell? ⟨b + 1, 3, none⟩ = some (.slice (some ⟨rb, 0, none⟩) n n) := R5.cell 3
  have d4 : V5.cell? ⟨b + 1, 4, none⟩ = some (.int .i64 (r3 - 6)) := R5.cell 4
  have d5 : V5.cell? ⟨b + 1, 5, none⟩ = some (.int .i64 (r4 - 6)) := R5.cell 5
  have d6 : V5.cell? ⟨b + 1, 6, none⟩ = some (.int .i64 (1 + r5)) := R5.cell 6
  have d7 : V5.cell? ⟨b + 1, 7, none⟩ = some (.int .i64 r6) := R5.cell 7
  have d8 : V5.cell? ⟨b + 1, 8, none⟩ = some (.int .i64 cp.a) := R5.cell 8
  have d9 : V5.cell? ⟨b + 1, 9, none⟩ = some (.int .i64 cp.b) := R5.cell 9
  have d10 : V5.cell? ⟨b + 1, 10, none⟩ = some (.int .i64 cp.c) := R5.cell 10
  have d11 : V5.cell? ⟨b + 1, 11, none⟩ = some (.int .i64 cp.d) := R5.cell 11
  exact bodyPost_ret (v := .agg #[.bool true, .int .i64 W, .int .i64 H, .slice (some ⟨rb, 0, none⟩) n n, .int .i64 (r3 - 6), .int .i64 (r4 - 6), .int .i64 (1 + r5), .int .i64 r6, .int .i64 cp.a, .int .i64 cp.b, .int .i64 cp.c, .int .i64 cp.d]) (by simp [results, Tryz.results52, go_sem, d0, d1, d2, d3, d4, d5, d6, d7, d8, d9, d10, d11]) rfl ⟨rb, rfl, C6, by omega, G5⟩

end Go.Proofs.YtablogiielclaaaGreat
namespace Go.Proofs.YtablogiielclaaaGreat
open Go.ChangeShapes Go.WideShapes Go.ChangeAt Go.RowKit Go.Joins Go.Sort Go.Deep

/-- A layer that Good made: its sides, colors, numbers. -/
structure LyG (W H n : Nat) (F : List Int) (a1 a2 s1 l1 : Int) : Prop where
  w1 : 1 ≤ W
  w2 : W ≤ 16
  h1 : 1 ≤ H
  h2 : H ≤ 16
  hn : n = W * H
  len : F.length = n
  may : MayL F
  b1 : -6 ≤ a1 ∧ a1 ≤ 17
  b2 : -6 ≤ a2 ∧ a2 ≤ 17
  b3 : 1 ≤ s1 ∧ s1 ≤ 3
  b4 : 0 ≤ l1 ∧ l1 ≤ 255
theorem LyG.ly {W H n : Nat} {F : List Int} {a1 a2 s1 l1 : Int} (h : LyG W H n F a1 a2 s1 l1) : lyMay W H s1 l1 a1 a2 = true := by
  obtain ⟨w1, w2, h1, h2, _, _, _, ⟨b1, b2⟩, ⟨b3, b4⟩, ⟨b5, b6⟩, ⟨b7, b8⟩⟩ := h
  obtain ⟨p1, p2⟩ := mul_bd (W := W) (s := s1) (by omega) (by omega) (by omega)
  obtain ⟨p3, p4⟩ := mul_bd (W := H) (s := s1) (by omega) (by omega) (by omega)
  unfold lyMay inB
  simp only [decide_eq_true_eq]
  omega
theorem LyG.c32 {W H n : Nat} {F : List Int} {a1 a2 s1 l1 : Int} (h : LyG W H n F a1 a2 s1 l1) : ∀ c ∈ F, C32 c := fun c hc => (h.may c hc).1

set_option maxHeartbeats 2000000 in
theorem kgood1 (sm : Bool) (W0 H0 : Int) (A0 : Option Addr) (n0 c0 : Nat) (ax ay s al : Int) (cp : Rc) (cw ch : Int) (A : Option Addr) (cap : Nat) (L : List Int) (w : World) (hK : KOk ax ay s al cp cw ch) (hlc : L.length ≤ cap) (hcm : cap ≤ maxLen) (hA : Ns .u32 w A L) (h32 : ∀ c ∈ L, C32 c) :
    Calls Tryz.prog 52 #[.agg #[.bool sm, .int .i64 W0, .int .i64 H0, .slice A0 n0 c0, .int .i64 ax, .int .i64 ay, .int .i64 s, .int .i64 al, .int .i64 cp.a, .int .i64 cp.b, .int .i64 cp.c, .int .i64 cp.d], .int .i64 cw, .int .i64 ch, .slice A L.length cap] w
      (fun e w' => ∃ (W H n : Nat) (F : List Int) (a1 a2 s1 l1 : Int) (rb : Nat), LyG W H n F a1 a2 s1 l1 ∧ e = .returned (.agg #[.bool true, .int .i64 W, .int .i64 H, .slice (some ⟨rb, 0, none⟩) n n, .int .i64 a1, .int .i64 a2, .int .i64 s1, .int .i64 l1, .int .i64 cp.a, .int .i64 cp.b, .int .i64 cp.c, .int .i64 cp.d]) ∧ At w' rb (cC F) 52 ∧ w.heap.size ≤ rb ∧ Bl w w') := by
  refine (lgood1 cw ch A cap L sm W0 H0 A0 n0 c0 ax ay s al cp w hA h32 hlc hcm hK.cw hK.ch hK.ax hK.ay hK.s hK.al).mono ?_
  rintro e w' ⟨rb, rfl, h1, h2, h3⟩
  obtain ⟨s1, s2, _⟩ := side_bd (around cw 6)
  obtain ⟨t1, t2, _⟩ := side_bd (around ch 6)
  obtain ⟨u1, u2⟩ := around_bd ax 24 (by omega)
  obtain ⟨u3, u4⟩ := around_bd ay 24 (by omega)
  obtain ⟨u5, u6⟩ := around_bd s 3 (by omega)
  obtain ⟨u7, u8⟩ := around_bd al 256 (by omega)
  exact ⟨side (around cw 6), side (around ch 6), _, _, _, _, _, _, rb, { w1 := s1, w2 := s2, h1 := t1, h2 := t2, hn := rfl, len := goodL_len _ _, may := goodL_may _ _, b1 := by omega, b2 := by omega, b3 := by omega, b4 := by omega }, rfl, h1, h2, h3⟩

end Go.Proofs.YtablogiielclaaaGreat
namespace Go.Proofs.YtablogiielclaaaGreat
open Go.RowKit Go.Sort Go.Deep

end Go.Proofs.YtablogiielclaaaGreat
namespace Go.Proofs.YtablogiielclaaaGreat
open Go.RowKit Go.Sort Go.Deep

theorem far_nat {i W : Nat} (h : i < W) (hw : W ≤ 256) : Far (i : Int) := by unfold Far; omega

end Go.Proofs.YtablogiielclaaaGreat
namespace Go.Proofs.YtablogiielclaaaGreat
open Go.RowKit Go.Sort

theorem drawP_same (W : Nat) {f : Int × Int → Int → Int} (hf : ∀ p q, C32 q → f p q = q) : ∀ (ps : List (Int × Int)) (L : List Int), (∀ c ∈ L, C32 c) → drawP W f L ps = L
  | [], _, _ => rfl
  | p :: ps, L, hL => by
    show drawP W f (L.set (ixP W p) (f p (L.getD (ixP W p) 0))) ps = L
    have h1 : L.set (ixP W p) (f p (L.getD (ixP W p) 0)) = L := by
      by_cases h : ixP W p < L.length
      · rw [List.getD_eq_getElem?_getD, List.getElem?_eq_getElem h]
        simp only [Option.getD_some]
        rw [hf _ _ (hL _ (List.getElem_mem h))]
        exact List.set_getElem_self h
      · exact List.set_eq_of_length_le (by omega)
    rw [h1]
    exact drawP_same W hf ps L hL
theorem lyF_none (W H : Nat) (M : List Int) (s ax ay : Int) (p : Int × Int) (q : Int) (hq : C32 q) : lyF W H M s ax ay 0 p q = q := by
  unfold lyF; rw [fd_none, ov_clear hq]
theorem cut_count {R : List Rc} {S : Rc} (hn : IsReg R) (h : ∀ x y, hasL R x y = hasB S.a S.b S.c S.d x y) (h1 : S.a ≤ S.c) (h2 : S.b ≤ S.d) : ((ptsL R).length : Int) = areaI S.a S.b S.c S.d := by
  have hp : (ptsL R).Perm (rectP S.a S.b (nX S) (nY S)) := (List.perm_ext_iff_of_nodup (reg_nodup hn) (rectP_nodup _ _ _ _)).2 fun p => by
    rw [ptsL_mem, h, rectP_mem]
    unfold hasB nX nY
    simp only [decide_eq_true_eq]
    omega
  rw [hp.length_eq, rectP_len]
  unfold areaI nX nY
  rw [Int.natCast_mul, Int.toNat_of_nonneg (by omega), Int.toNat_of_nonneg (by omega), Int.mul_comm]
theorem lyCut_may (cp : Rc) (W2 H2 : Nat) (s ax ay : Int) {W H : Nat} (hW : W ≤ 256) (hH : H ≤ 256) : mayB (lyCut cp W2 H2 s ax ay W H).a (lyCut cp W2 H2 s ax ay W H).b (lyCut cp W2 H2 s ax ay W H).c (lyCut cp W2 H2 s ax ay W H).d = true := by
  have h := lyCut_bd cp W2 H2 s ax ay hW hH
  have h2 : (lyCut cp W2 H2 s ax ay W H).a ≤ (lyCut cp W2 H2 s ax ay W H).c ∧ (lyCut cp W2 H2 s ax ay W H).b ≤ (lyCut cp W2 H2 s ax ay W H).d := by
    unfold lyCut cutR
    split
    · simp
    · rename_i e
      simp [emptyB] at e
      dsimp only
      omega
  unfold mayB
  simp only [decide_eq_true_eq]
  omega
/-- What is drawn on a whole image by a layer of the alpha 0. -/
theorem none_of {cp : Rc} {W2 H2 W H : Nat} {s ax ay : Int} {L M : List Int} {R : List Rc} (hW : W ≤ 256) (hH : H ≤ 256) (hL : MayL L) (hs : 1 ≤ s) (hQ : OfQ g256 g256 (cutL (lyCut cp W2 H2 s ax ay W H) [⟨0, 0, W, H⟩]) R) :
    drawP W (lyF W2 H2 M s ax ay 0) L (ptsL R) = L ∧ ((ptsL R).length : Int) = areaI (lyCut cp W2 H2 s ax ay W H).a (lyCut cp W2 H2 s ax ay W H).b (lyCut cp W2 H2 s ax ay W H).c (lyCut cp W2 H2 s ax ay W H).d := by
  refine ⟨drawP_same W (fun p q hq => lyF_none _ _ _ _ _ _ p q hq) _ _ (fun c hc => (hL c hc).1), ?_⟩
  have hm := lyCut_may cp W2 H2 s ax ay hW hH
  unfold mayB at hm
  simp only [decide_eq_true_eq] at hm
  refine cut_count hQ.reg (fun x y => ?_) hm.2.1 hm.2.2.2.2.1
  rw [hQ.has, cutL_has, lyCut_has _ _ _ _ _ _ _ hs]
  simp [hasL]

end Go.Proofs.YtablogiielclaaaGreat
