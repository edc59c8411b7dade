/-
  What is proved: what within of package paint hands back: the region of what rectangles have of a box. No conditions but bounds. what a range over the points of a region comes to, as a law over a range wants it; two pointers that are not one; small facts for Draw of package paint. No conditions. what Draw of package paint does, of a layer whose image is another one. No conditions but bounds. plain facts on what is drawn where nothing is seen, and on how many points of a cut box there are. No conditions but bounds.
-/
import Derived.Test.YtafceieenhogpaaZn
import Derived.Test.YtafceieenhogpaaZa
import Derived.Test.YtafceieenhogpaaZi
import Derived.Test.YtafceieenhogpaaZp
import Derived.Test.YtafceieenhogpaaZl
import Derived.Test.YtafceieenhogpaaNa
import Derived.LaidEql
namespace Go.Proofs.Ytafceieenhogpaa
open Go.RowKit Go.Sort

/-- What rectangles have of a box. -/
def cutL (B : Rc) (L : List Rc) : List Rc := L.map fun r => cutR r.a r.b r.c r.d B.a B.b B.c B.d
/-- The places from 0 to 256. -/
def g256 : List Int := (List.range 257).map fun (i : Nat) => (i : Int)
theorem g256_mem (x : Int) : x ∈ g256 ↔ 0 ≤ x ∧ x ≤ 256 := by
  unfold g256
  rw [List.mem_map]
  constructor
  · rintro ⟨i, hi, rfl⟩
    rw [List.mem_range] at hi
    omega
  · rintro ⟨h0, h1⟩
    exact ⟨x.toNat, by rw [List.mem_range]; omega, by omega⟩
theorem grid256 : Grid g256 g256 := ⟨by simp [g256], by simp [g256], fun x hx => by rw [g256_mem] at hx; unfold I64; omega⟩
theorem cutL_in {B : Rc} (h : 0 ≤ B.a ∧ B.c ≤ 256 ∧ 0 ≤ B.b ∧ B.d ≤ 256) (L : List Rc) : InNe g256 g256 (cutL B L) := by
  intro r hr he
  unfold cutL at hr
  rw [List.mem_map] at hr
  obtain ⟨s, _, rfl⟩ := hr
  unfold cutR at he ⊢
  split at he
  · simp [emptyB] at he
  · rename_i h2
    rw [if_neg h2]
    simp only [g256_mem]
    dsimp only at he ⊢
    have h3 : ¬ (min s.c B.c ≤ max s.a B.a ∨ min s.d B.d ≤ max s.b B.b) := of_decide_eq_false he
    omega
theorem cutL_has (B : Rc) (L : List Rc) (x y : Int) : hasL (cutL B L) x y = (hasB B.a B.b B.c B.d x y && hasL L x y) := by
  unfold hasL cutL
  rw [List.any_map]
  induction L with
  | nil => simp
  | cons r l ih =>
    rw [List.any_cons, List.any_cons, ih]
    simp only [Function.comp]
    rw [cutR_has]
    cases hasB r.a r.b r.c r.d x y <;> cases hasB B.a B.b B.c B.d x y <;> simp

/-- A region that is handed back: a row that reads so. -/
def WQ (w : World) (Q : List Rc → Prop) (e : Ending) (w' : World) : Prop := ∃ (A : Option Addr) (c : Nat) (R : List Rc), e = .returned (.slice A R.length c) ∧ R.length ≤ c ∧ OwR w' w.heap.size A c R ∧ Q R ∧ Bl w w'
theorem cutL_take {B : Rc} {L : List Rc} {k : Nat} {r : Rc} (h : L[k]? = some r) : cutL B (L.take (k + 1)) = cutL B (L.take k) ++ [cutR r.a r.b r.c r.d B.a B.b B.c B.d] := by
  unfold cutL
  rw [List.take_add_one, h, List.map_append]; rfl
theorem put_next {A : List Rc} {k n : Nat} (hk : A.length = k) (r : Rc) : (A ++ List.replicate (n + 1) zR).set k r = (A ++ [r]) ++ List.replicate n zR := by
  subst hk
  rw [List.set_append_right _ _ (Nat.le_refl _), Nat.sub_self, List.replicate_succ]
  simp

set_option maxRecDepth 100000 in
set_option maxHeartbeats 4000000 in
theorem within1 (B : Rc) (hB : 0 ≤ B.a ∧ B.c ≤ 256 ∧ 0 ≤ B.b ∧ B.d ≤ 256) (A : Option Addr) (c : Nat) (L : List Rc) (w : World) (hL : L.length ≤ 1000000) (hA : Rs w A L) :
    Calls Try.prog 82 #[.agg #[.int .i64 B.a, .int .i64 B.b, .int .i64 B.c, .int .i64 B.d], .slice A L.length c] w (WQ w (OfQ g256 g256 (cutL B L))) := by
  have hin := cutL_in hB L
  have b1 := (At.new w #[.int .i64 B.a, .int .i64 B.b, .int .i64 B.c, .int .i64 B.d] 24).alloc (.cells (cR (List.replicate L.length zR)).toArray 24)
  have r1 := At.newAt (w := w.alloc (.cells #[.int .i64 B.a, .int .i64 B.b, .int .i64 B.c, .int .i64 B.d] 24)) (n := w.heap.size + 1) (by simp) (cR (List.replicate L.length zR)).toArray 24
  have G1 := ((Bl.refl w).alloc (.cells #[.int .i64 B.a, .int .i64 B.b, .int .i64 B.c, .int .i64 B.d] 24)).alloc (.cells (cR (List.replicate L.length zR)).toArray 24)
  have hmk := makeR L.length (by omega) (w.alloc (.cells #[.int .i64 B.a, .int .i64 B.b, .int .i64 B.c, .int .i64 B.d] 24))
  rw [show (w.alloc (.cells #[.int .i64 B.a, .int .i64 B.b, .int .i64 B.c, .int .i64 B.d] 24)).heap.size = w.heap.size + 1 by simp] at hmk
  obtain ⟨N, hN⟩ : ∃ N, N = L.length := ⟨_, rfl⟩
  rw [← hN] at hmk hL b1 r1 G1 ⊢
  replace hN := Lib.hid hN
  have cc := fun (r : Rc) w => cut1 r.a r.b r.c r.d B.a B.b B.c B.d w
  go_enter Try.func82, Try.ntmps82
  go_wp2
  obtain ⟨w0, hw0⟩ : ∃ w0, w0 = (w.alloc (.cells #[.int .i64 B.a, .int .i64 B.b, .int .i64 B.c, .int .i64 B.d] 24)).alloc (.cells (cR (List.replicate N zR)).toArray 24) := ⟨_, rfl⟩
  rw [← hw0] at b1 r1 G1 ⊢
  clear hw0 hmk
  go_loopw [13] (fun i wr => ∃ k : Nat, k ≤ N ∧ i = .int .i64 k ∧ At wr w.heap.size #[.int .i64 B.a, .int .i64 B.b, .int .i64 B.c, .int .i64 B.d] 24 ∧ At wr (w.heap.size + 1) (cR (cutL B (L.take k) ++ List.replicate (N - k) zR)).toArray 24 ∧ Bl w wr) (fun i _ => N - (intOf i).toNat)
  case atStart => exact ⟨0, Nat.zero_le _, rfl, b1, by simpa [cutL] using r1, G1⟩
  case round =>
    obtain ⟨k, hk, rfl, b2, r2, G⟩ := hrel
    by_cases hlt : k < N
    · obtain ⟨r, hr⟩ := list_at (show k < L.length by rw [← hN.out]; exact hlt)
      obtain ⟨b, off, rfl, hrow⟩ := (hA.bl G).opened (by rw [← hN.out]; omega)
      obtain ⟨e1, e2, e3, e4⟩ := hrow k r hr
      have htk := Lib.hid (cutL_take (B := B) hr)
      have hln : (cutL B (L.take k)).length = k := by unfold cutL; rw [List.length_map, List.length_take, ← hN.out]; omega
      have hput := put_next (n := N - (k + 1)) hln (cutR r.a r.b r.c r.d B.a B.b B.c B.d)
      rw [show N - (k + 1) + 1 = N - k by omega] at hput
      have hzero : (cutL B (L.take k) ++ List.replicate (N - k) zR)[k]? = some zR := by
        rw [List.getElem?_append_right (by omega), hln, Nat.sub_self, show N - k = (N - (k + 1)) + 1 by omega, List.replicate_succ]; rfl
      have ccr := fun w => cc r w
      obtain ⟨ra, rb, rc, rd⟩ := r
      dsimp only at *
      clear hrow hr cc
      have hlt1 : w.heap.size + 1 < wr.heap.size := r2.lt
      have hlt0 : w.heap.size < wr.heap.size := b2.lt
      obtain ⟨t0, t1, t2, t3⟩ := cells4 b2
      replace hN := hN
      replace htk := htk
      have hput' := Lib.hid hput
      have hln' := Lib.hid hln
      have hz0 := Lib.hid hzero
      clear hput hln hzero
      go_wp2_with fail
      refine (ccr _).mono ?_
      rintro e w2 ⟨rfl, g2⟩
      obtain ⟨q, hq⟩ : ∃ q, q = cutR ra rb rc rd B.a B.b B.c B.d := ⟨_, rfl⟩
      rw [← hq] at hput' htk ⊢
      clear hq ccr
      have r3 := (r2.alloc (.cells #[.int .i64 ra, .int .i64 rb, .int .i64 rc, .int .i64 rd] 24)).gr g2
      have b3 := (b2.alloc (.cells #[.int .i64 ra, .int .i64 rb, .int .i64 rc, .int .i64 rd] 24)).gr g2
      have G3 := (G.alloc (.cells #[.int .i64 ra, .int .i64 rb, .int .i64 rc, .int .i64 rd] 24)).gr g2
      have old := r3.rowRc k zR hz0.out
      rw [Nat.zero_add] at old
      obtain ⟨o1, o2, o3, o4⟩ := old
      have fr := fun j => r3.free j
      have fr0 := fr (k * 4)
      have fr1 := fr (k * 4 + 1)
      have fr2 := fr (k * 4 + 2)
      have fr3 := fr (k * 4 + 3)
      clear fr
      have r4 := put_rect (r := q) r3 hz0.out
      rw [hput'.out] at r4
      have b4 := (((b3.far (p := ⟨w.heap.size + 1, k * 4, none⟩) (by simp) (.int .i64 q.a)).far (p := ⟨w.heap.size + 1, k * 4 + 1, none⟩) (by simp) (.int .i64 q.b)).far (p := ⟨w.heap.size + 1, k * 4 + 2, none⟩) (by simp) (.int .i64 q.c)).far (p := ⟨w.heap.size + 1, k * 4 + 3, none⟩) (by simp) (.int .i64 q.d)
      have G4 := (((G3.setCell (p := ⟨w.heap.size + 1, k * 4, none⟩) (by simp) (.int .i64 q.a)).setCell (p := ⟨w.heap.size + 1, k * 4 + 1, none⟩) (by simp) (.int .i64 q.b)).setCell (p := ⟨w.heap.size + 1, k * 4 + 2, none⟩) (by simp) (.int .i64 q.c)).setCell (p := ⟨w.heap.size + 1, k * 4 + 3, none⟩) (by simp) (.int .i64 q.d)
      go_wp2
      go_roundw
      case rel => exact ⟨k + 1, by omega, by simp, b4, by rw [htk.out]; exact r4, G4⟩
      case measure => simp [intOf]; omega
    · obtain rfl : k = N := by omega
      have hall : cutL B (L.take k) ++ List.replicate (k - k) zR = cutL B L := by rw [hN.out, List.take_length]; simp
      rw [hall] at r2
      have hcl : (cutL B L).length = k := by unfold cutL; rw [List.length_map, hN.out]
      have co := of1 k (some ⟨w.heap.size + 1, 0, none⟩) k (cutL B L) g256 g256 wr (by omega) (by omega) (by omega) (by omega) (.inr ⟨_, _, rfl, r2.rowRc⟩) grid256 hin
      rw [hcl] at co
      clear hall hcl
      go_wp2_with fail
      refine co.mono ?_
      rintro e w3 ⟨A', c', R, rfl, own, hQ, g3⟩
      have hs := own.base (B' := w.heap.size) G.size
      have hcap := own.cap
      replace hQ := Lib.hid hQ
      go_wp2
      go_ret
      exact ⟨A', c', R, rfl, hcap, hs, hQ.out, G.trans g3⟩

end Go.Proofs.Ytafceieenhogpaa
namespace Go.Proofs.Ytafceieenhogpaa
open Go.RowKit Go.Sort Go.Shelf

attribute [local go_sem] Oper.semAt_some

theorem points1 (A : Option Addr) (n c : Nat) (w : World) : Calls Try.prog 81 #[.slice A n c] w fun e w' => e = .returned (.func (.func 96) #[] #[.pointer (some ⟨w.heap.size, 0, none⟩)]) ∧ w' = w.alloc (.cells #[.slice A n c] 22) := by
  go_enter Try.func81, Try.ntmps81
  go_wp2
  go_ret
  exact ⟨rfl, rfl⟩

theorem ptr_ne {a b : Nat} {ca cb : Array Value} {ta tb : TypeId} {w : World} (ha : At w a ca ta) (hb : At w b cb tb) (hne : a ≠ b) :
    (binOp .eql 36 (.pointer (some ⟨a, 0, none⟩)) (.pointer (some ⟨b, 0, none⟩))).run Try.prog w = .ok (.bool false) w := by
  obtain ⟨j, hj, hjs⟩ := Option.map_eq_some_iff.1 (show (Try.prog.info? 105).map (·.size) = some 3 by kernel_rfl)
  have hs : (sameAddr ⟨a, 0, none⟩ ⟨b, 0, none⟩).run Try.prog w = .ok false w := run_sameAddr_other w (by intro e; injection e with e1 _; exact hne e1) ha hb
  have h : ∀ d : Nat, (Op.equalIn (d + 1) 36 (.pointer (some ⟨a, 0, none⟩)) (.pointer (some ⟨b, 0, none⟩))).run Try.prog w = .ok false w := fun d => by
    simp [Op.equalIn, run_underlying Try.underlying36, sizeOf, typeInfo, hj, hjs, hs]
  simp only [binOp]
  simp [Op.equal, Op.maxDepth, h 9999]

/-- Rows of a call's own, where what it has laid lies as it lay. -/
theorem OwR.still {w wr : World} {B : Nat} {A : Option Addr} {c : Nat} {R : List Rc} (h : OwR w B A c R) (hk : ∀ k cs t, B ≤ k → At w k cs t → At wr k cs t) : Rs wr A R := by
  have h' : OwR wr B A c R := by
    refine ⟨h.1, ?_⟩
    rcases h.2 with hn | ⟨g, cap, cur, h1, h2, h3, h4⟩
    · exact .inl hn
    · exact .inr ⟨g, cap, cur, h1, h2, hk g cur _ h2 h3, h4⟩
  exact h'.rs
theorem KeepC.by {Pr : Nat → Prop} {A B : World} {r : Nat} (g : A.grownBy B (some r)) (hr : Pr r) : KeepC Pr A B := ⟨g.size, fun _ _ _ hk ha => ha.kept g (fun e => by cases e; exact hk hr)⟩
theorem KeepC.set {Pr : Nat → Prop} (A : World) (r i : Nat) (u : Value) (hr : Pr r) : KeepC Pr A (A.setCell ⟨r, i, none⟩ u) := KeepC.by (by_set (p := ⟨r, i, none⟩) (by_refl A (some r)) u) hr

theorem pointsStops (n : Nat) (hn : 1 ≤ n) (bq tq B : Nat) (Pr : Nat → Prop) (A : Option Addr) (c : Nat) (R : List Rc)
    (hb : ∀ r ∈ R, -1000000 ≤ r.a ∧ r.c ≤ 1000000 ∧ -1000000 ≤ r.b ∧ r.d ≤ 1000000 ∧ r.a ≤ 1000000 ∧ r.b ≤ 1000000) (hlen : R.length ≤ 100000000)
    (V : World) (hq : At V bq #[.slice A R.length c] tq) (hPr : ∀ k, Pr k → k < V.heap.size) (hPB : ∀ k, B ≤ k → ¬ Pr k) (hRow : OwR V B A c R) :
    SeqStopsK Fence.wide n Try.prog 96 #[.pointer (some ⟨bq, 0, none⟩)] (ptV (R := R)) (KeepC Pr)
      (fun ys => ys.map (·.1) = ptsL R) (fun pre => pre.map (·.1) <+: ptsL R) (ptsL R).length V := fun l J Jx W' hW' hJ _ hY h0 => by
  have gW : Bl V W' := hW'
  exact pointsIter n hn l bq tq Pr A c R J Jx hb hlen (fun pre A B h hg => hJ pre A B none h hg (fun r e => by cases e)) hY W' (hq.bl gW) (fun k hk => Nat.lt_of_lt_of_le (hPr k hk) gW.size)
    (fun wr hK => (hRow.bl gW).still (fun k cs t hk ha => hK.2 k cs t (hPB k hk) ha)) h0

end Go.Proofs.Ytafceieenhogpaa
namespace Go.Proofs.Ytafceieenhogpaa
open Go.RowKit Go.Sort Go.Shelf

attribute [local go_sem] Oper.semAt_some

/-- What a layer makes of a color at a point. -/
def lyF (W H : Nat) (M : List Int) (s ax ay al : Int) (p : Int × Int) (was : Int) : Int := ov (fd (atV W H M ((p.1 - ax) / s) ((p.2 - ay) / s)) al) was
/-- What a layer can show of an image. -/
def lyCut (cp : Rc) (W2 H2 : Nat) (s ax ay : Int) (W H : Nat) : Rc := cutR (lyBox cp W2 H2 s ax ay).a (lyBox cp W2 H2 s ax ay).b (lyBox cp W2 H2 s ax ay).c (lyBox cp W2 H2 s ax ay).d 0 0 W H
/-- What Draw tells and leaves. -/
def DrawQ (w : World) (pm pc W H : Nat) (L : List Int) (f : Int × Int → Int → Int) (S : Rc) (R0 : List Rc) (e : Ending) (w' : World) : Prop :=
  ∃ R, OfQ g256 g256 (cutL S R0) R ∧ e = .returned (.int .i64 ((ptsL R).length : Nat)) ∧ w.grownBy w' (some pc) ∧ Img w' pm pc W H (drawP W f L (ptsL R))

theorem atV_may {W H : Nat} {L : List Int} (x y : Int) (h : ∀ c ∈ L, mayC c = true) : mayC (atV W H L x y) = true := by
  unfold atV
  split
  · rw [List.getD_eq_getElem?_getD]
    cases hq : L[ixP W (x, y)]? with
    | none => decide
    | some c => exact h c (List.mem_of_getElem? hq)
  · decide
theorem lyF_may {W H : Nat} {M : List Int} (s ax ay al : Int) (p : Int × Int) {was : Int} (hM : MayL M) (hw : mayC was = true) : mayC (lyF W H M s ax ay al p was) = true :=
  may_ov (may_fd al (atV_may _ _ (fun c hc => (hM c hc).2))) hw
theorem mayL_set {L : List Int} {k : Nat} {c : Int} (h : MayL L) (hc : C32 c) (hm : mayC c = true) : MayL (L.set k c) := fun d hd => by
  rcases List.mem_or_eq_of_mem_set hd with h1 | h1
  · exact h d h1
  · subst h1; exact ⟨hc, hm⟩
theorem lyCut_bd (cp : Rc) (W2 H2 : Nat) (s ax ay : Int) {W H : Nat} (hW : W ≤ 256) (hH : H ≤ 256) : 0 ≤ (lyCut cp W2 H2 s ax ay W H).a ∧ (lyCut cp W2 H2 s ax ay W H).c ≤ 256 ∧ 0 ≤ (lyCut cp W2 H2 s ax ay W H).b ∧ (lyCut cp W2 H2 s ax ay W H).d ≤ 256 := by
  obtain ⟨x0, y0, x1, y1, he, h1, _, h3, h4, h5, _⟩ := cut_nat (lyBox cp W2 H2 s ax ay).a (lyBox cp W2 H2 s ax ay).b (lyBox cp W2 H2 s ax ay).c (lyBox cp W2 H2 s ax ay).d W H
  unfold lyCut
  rw [he]
  dsimp only
  omega
theorem lyCut_has (cp : Rc) (W2 H2 : Nat) {s : Int} (ax ay : Int) (W H : Nat) (hs : 1 ≤ s) (x y : Int) : hasB (lyCut cp W2 H2 s ax ay W H).a (lyCut cp W2 H2 s ax ay W H).b (lyCut cp W2 H2 s ax ay W H).c (lyCut cp W2 H2 s ax ay W H).d x y = (lyHas cp W2 H2 s ax ay x y && hasB 0 0 W H x y) := by
  unfold lyCut
  rw [cutR_has, lyBox_has hs]
theorem lyHas_ge {cp : Rc} {W H : Nat} {s ax ay x y : Int} (hs : 1 ≤ s) (h : lyHas cp W H s ax ay x y = true) : ax ≤ x ∧ ay ≤ y := by
  unfold lyHas at h
  have h1 := (Bool.and_eq_true_iff.1 h).1
  have h2 := of_decide_eq_true (show decide (0 ≤ (x - ax) / s ∧ (x - ax) / s < (W : Int) ∧ 0 ≤ (y - ay) / s ∧ (y - ay) / s < (H : Int)) = true from h1)
  have e1 := (Int.le_ediv_iff_mul_le (c := s) (a := 0) (b := x - ax) (by omega)).1 h2.1
  have e2 := (Int.le_ediv_iff_mul_le (c := s) (a := 0) (b := y - ay) (by omega)).1 h2.2.2.1
  omega

theorem pts_len {W H : Nat} {ps : List (Int × Int)} (hW : 1 ≤ W) (hw : W ≤ 256) (hh : H ≤ 256) (hn : ps.Nodup) (hi : ∀ p ∈ ps, InP W H p) : ps.length ≤ 100000 := by
  have h1 := pts_count hW hn hi (fun i j => decide ((((i : Int), (j : Int)) ∈ ps))) (fun i j _ _ => by simp)
  rw [h1]
  exact Nat.le_trans (cntI_le _ _) (Nat.le_trans (area_le hw hh) (by decide))

/-- No operation of a region is a defer statement. -/
def noDefer (ops : Array Oper) : Bool := ops.all fun o => match o.op with | .defer _ => false | _ => true
theorem noDefer_spec {ops : Array Oper} (h : noDefer ops = true) {i : Nat} {o : Oper} (ho : ops[i]? = some o) : ∀ c, o.op ≠ .defer c := fun c hc => by
  have h1 := Array.all_eq_true.1 h i (by exact (Array.getElem?_eq_some_iff.1 ho).1)
  rw [(Array.getElem?_eq_some_iff.1 ho).2, hc] at h1
  cases h1
/-- An operation's rule as anywhere is its rule in a round. -/
theorem rows_wide {n : Nat} {P : Program} {row : String} {args : Array Value} {w : World} {R : Value → World → Prop} (h : Rows P row args w R) : RowsIn Fence.wide n P row args w R := by
  intro c cs _
  obtain ⟨v, w', r, s⟩ := h c cs
  exact ⟨v, w', r, stepsIn_wide.2 s⟩
theorem wpOp_round {n l : Nat} {P : Program} {ops : Array Oper} {Q : Exit → Act → World → Prop} (hnd : noDefer ops = true) (hno : ¬ LetsOut Q) {i : Nat} {K : Act → World → Prop} {a : Act} {w : World}
    (hr : ∀ row args w' R, Rows P row args w' R → RowsIn Fence.wide (n - 1) P row args w' R) (h : wpOp P ops Q i K a w) : wpOpIn (Fence.wide.inRound l) n P ops Q i K a w := by
  unfold wpOp at h
  unfold wpOpIn
  cases ho : ops[i]? with
  | none => rw [ho] at h; exact h
  | some o =>
    rw [ho] at h
    dsimp only at h ⊢
    by_cases hw : Region.wanted o (yielded ops a.tmps) = true
    · rw [if_pos hw] at h ⊢
      rcases h with h | h
      · refine ⟨fun _ _ => trivial, ?_⟩
        rw [show (Fence.wide.inRound l).round = some l from rfl, Oper.semAt_some l _ _ (noDefer_spec hnd ho)]
        unfold Oper.wp at h
        generalize (execOp a.eval o).run P w = r at *
        cases r with
        | ok x w' =>
          cases x <;> simp only [Oper.upon] at h <;> simp only [Oper.uponIn] <;> first
            | exact h
            | exact h.elim
            | exact ⟨fun hd => (by cases hd), (callsIn_wide (n := n - 1)).2 h⟩
            | exact ⟨fun hd => (by cases hd), hr _ _ _ _ h⟩
        | halt x w' => cases x <;> simp only [Oper.upon] at h <;> simp only [Oper.uponIn] <;> first | exact h | exact h.elim
      · exact (hno h.2).elim
    · rw [if_neg hw] at h ⊢
      exact ⟨fun _ _ => trivial, h⟩
theorem wpAny_round {n l : Nat} {P : Program} {md : Region.Mode} {ops : Array Oper} {Q : Exit → Act → World → Prop} (hnd : noDefer ops = true) (hno : ¬ LetsOut Q) : ∀ (fuel : Nat) (listed : Array Bool) (a : Act) (w : World),
    wpAny P md ops Q fuel listed a w → wpAnyIn (Fence.wide.inRound l) n P md ops Q fuel listed a w
  | 0, _, _, _, h => h
  | fuel + 1, _, _, _, h => ⟨h.1, fun i hi => wpOpIn_mono (fun a' w' h' => wpAny_round hnd hno fuel _ a' w' h') (wpOp_round hnd hno (fun _ _ _ _ h => rows_wide h) (h.2 i hi))⟩
/-- A region that draws, in a round: from the walk as anywhere. -/
theorem wpIn_region_round {n l : Nat} {P : Program} {ops : Array Oper} {Q : Exit → Act → World → Prop} (S : World → Prop) {id : Nat} {a : Act} {w : World} (hm : P.follows .mixedOrders = true) (hnd : noDefer ops = true) (hno : ¬ LetsOut Q)
    (h : wpAnyH P .any ops Q S ops.size (Array.replicate ops.size false) a w.drew) : (Code.region id ops true).wpIn (Fence.wide.inRound l) n P Q a w :=
  wpIn_region_any hm (wpAny_round hnd hno _ _ _ _ (wpAny_of_held _ _ _ _ h))

set_option maxRecDepth 100000 in
set_option maxHeartbeats 8000000 in
theorem draw1 {pm pc W H p2 c2 W2 H2 : Nat} {L M : List Int} (ax ay s al : Int) (cp : Rc) (A0 : Option Addr) (k0 : Nat) (R0 : List Rc) (w : World) (hI : Img w pm pc W H L) (hJ : Img w p2 c2 W2 H2 M) (hne : p2 ≠ pm) (h1 : p2 ≠ pc) (h2 : c2 ≠ pc) (hL : MayL L) (hMM : MayL M)
    (hM : lyMay W2 H2 s al ax ay = true) (hA : Rs w A0 R0) (hR0 : R0.length ≤ 1000000) :
    Calls Try.prog 40 #[.pointer (some ⟨pm, 0, none⟩), .agg #[.pointer (some ⟨p2, 0, none⟩), .int .i64 ax, .int .i64 ay, .int .i64 s, .int .i64 al, .int .i64 cp.a, .int .i64 cp.b, .int .i64 cp.c, .int .i64 cp.d], .slice A0 R0.length k0] w
      (DrawQ w pm pc W H L (lyF W2 H2 M s ax ay al) (lyCut cp W2 H2 s ax ay W H) R0) := by
  have mixed : Try.prog.follows .mixedOrders = true := by kernel_rfl
  obtain ⟨m1, m2, m3, m4, m5, m6, m7, m8, _, _⟩ := lmay_bd hM
  have hSb := lyCut_bd cp W2 H2 s ax ay hI.w2 hI.h2
  have hSh := lyCut_has cp W2 H2 ax ay W H m1
  obtain ⟨S, hS⟩ : ∃ S, S = lyCut cp W2 H2 s ax ay W H := ⟨_, rfl⟩
  have cC : ∀ w', Calls Try.prog 63 #[.agg #[.int .i64 (lyBox cp W2 H2 s ax ay).a, .int .i64 (lyBox cp W2 H2 s ax ay).b, .int .i64 (lyBox cp W2 H2 s ax ay).c, .int .i64 (lyBox cp W2 H2 s ax ay).d], .agg #[.int .i64 0, .int .i64 0, .int .i64 W, .int .i64 H]] w' (Rt w' (.agg #[.int .i64 S.a, .int .i64 S.b, .int .i64 S.c, .int .i64 S.d])) := fun w' => by
    rw [hS]; exact cut1 _ _ _ _ 0 0 W H w'
  rw [← hS] at hSb hSh ⊢
  have cB := fun (w' : World) (g : Gr w w') => pbox1 ax ay s al cp w' (hJ.gr g) hM
  have cX := fun (w' : World) (g : Gr w w') => box1 w' (hI.gr g)
  have cW := fun (w' : World) (g : Gr w w') => within1 S hSb A0 k0 R0 w' hR0 (hA.bl g.bl)
  generalize lyBox cp W2 H2 s ax ay = bx at *
  clear hS
  have hpe := ptr_ne (w := (w.alloc (.cells #[.pointer (some ⟨pm, 0, none⟩)] 36)).alloc (.cells #[.pointer (some ⟨p2, 0, none⟩), .int .i64 ax, .int .i64 ay, .int .i64 s, .int .i64 al, .int .i64 cp.a, .int .i64 cp.b, .int .i64 cp.c, .int .i64 cp.d] 82)) ((hJ.hd.alloc _).alloc _) ((hI.hd.alloc _).alloc _) hne
  refine (callsIn_wide (n := 5)).1 ?_
  refine callsIn_of_wp_marks Try.func40 rfl trivial ?_ rfl
  simp only [Try.ntmps40, List.size_toArray, List.length_cons, List.length_nil, Nat.reduceAdd, Nat.reduceSub, Array.replicate_succ, Array.replicate_zero, List.push_toArray, List.append_toArray, List.nil_append, List.cons_append]
  have a1 := ((At.new w #[.pointer (some ⟨pm, 0, none⟩)] 36).alloc (.cells #[.pointer (some ⟨p2, 0, none⟩), .int .i64 ax, .int .i64 ay, .int .i64 s, .int .i64 al, .int .i64 cp.a, .int .i64 cp.b, .int .i64 cp.c, .int .i64 cp.d] 82)).alloc (.cells #[.int .i64 0] 3)
  have a2 := (At.newAt (w := w.alloc (.cells #[.pointer (some ⟨pm, 0, none⟩)] 36)) (n := w.heap.size + 1) (by simp) #[.pointer (some ⟨p2, 0, none⟩), .int .i64 ax, .int .i64 ay, .int .i64 s, .int .i64 al, .int .i64 cp.a, .int .i64 cp.b, .int .i64 cp.c, .int .i64 cp.d] 82).alloc (.cells #[.int .i64 0] 3)
  have a3 := At.newAt (w := (w.alloc (.cells #[.pointer (some ⟨pm, 0, none⟩)] 36)).alloc (.cells #[.pointer (some ⟨p2, 0, none⟩), .int .i64 ax, .int .i64 ay, .int .i64 s, .int .i64 al, .int .i64 cp.a, .int .i64 cp.b, .int .i64 cp.c, .int .i64 cp.d] 82)) (n := w.heap.size + 2) (by simp) #[.int .i64 0] 3
  have G0 := (((Gr.refl w).alloc (.cells #[.pointer (some ⟨pm, 0, none⟩)] 36)).alloc (.cells #[.pointer (some ⟨p2, 0, none⟩), .int .i64 ax, .int .i64 ay, .int .i64 s, .int .i64 al, .int .i64 cp.a, .int .i64 cp.b, .int .i64 cp.c, .int .i64 cp.d] 82)).alloc (.cells #[.int .i64 0] 3)
  gi_wp2
  clear hpe
  rename_i K hK
  obtain ⟨U, hU⟩ : ∃ U, U = (((w.alloc (.cells #[.pointer (some ⟨pm, 0, none⟩)] 36)).alloc (.cells #[.pointer (some ⟨p2, 0, none⟩), .int .i64 ax, .int .i64 ay, .int .i64 s, .int .i64 al, .int .i64 cp.a, .int .i64 cp.b, .int .i64 cp.c, .int .i64 cp.d] 82)).alloc (.cells #[.int .i64 0] 3)) := ⟨_, rfl⟩
  have hzU : U.heap.size = w.heap.size + 3 := by rw [hU]; simp
  rw [← hU] at a1 a2 a3 G0 ⊢
  clear hU
  have rest : ∀ (V : World) (A : Option Addr) (c : Nat) (R : List Rc), Bl U V → OwR V (w.heap.size + 3) A c R → OfQ g256 g256 (cutL S R0) R →
      K { tmps := #[.pointer (some ⟨pm, 0, none⟩), .agg #[.pointer (some ⟨p2, 0, none⟩), .int .i64 ax, .int .i64 ay, .int .i64 s, .int .i64 al, .int .i64 cp.a, .int .i64 cp.b, .int .i64 cp.c, .int .i64 cp.d], .slice A0 R0.length k0,
          .pointer (some ⟨w.heap.size, 0, none⟩), .pointer (some ⟨w.heap.size + 1, 0, none⟩), undef, .int .i64 0, .pointer (some ⟨w.heap.size + 2, 0, none⟩), undef, undef, undef, undef,
          .pointer (some ⟨w.heap.size + 1, 0, none⟩), .pointer (some ⟨p2, 0, none⟩), .pointer (some ⟨pm, 0, none⟩), .bool false, undef, undef, undef,
          .agg #[.pointer (some ⟨p2, 0, none⟩), .int .i64 ax, .int .i64 ay, .int .i64 s, .int .i64 al, .int .i64 cp.a, .int .i64 cp.b, .int .i64 cp.c, .int .i64 cp.d], .agg #[.int .i64 bx.a, .int .i64 bx.b, .int .i64 bx.c, .int .i64 bx.d], .pointer (some ⟨pm, 0, none⟩), .agg #[.int .i64 0, .int .i64 0, .int .i64 W, .int .i64 H], .agg #[.int .i64 S.a, .int .i64 S.b, .int .i64 S.c, .int .i64 S.d], .slice A0 R0.length k0, .slice A R.length c,
          .func (.func 96) #[] #[.pointer (some ⟨V.heap.size, 0, none⟩)],
          undef, undef, undef, undef, undef, undef, undef, undef, undef, undef, undef, undef, undef, undef, undef, undef, undef, undef, undef, undef, undef, undef, undef], defers := [] } (V.alloc (.cells #[.slice A R.length c] 22)) := by
    intro V A c R gV own hQ
    refine hK _ _ ?_
    clear hK cB cX cC cW
    have GV := G0.bl.trans gV
    have hzV := gV.size
    have IV := hI.bl (GV.alloc (.cells #[.slice A R.length c] 22))
    have JV := hJ.bl (GV.alloc (.cells #[.slice A R.length c] 22))
    have b1 := (a1.bl gV).alloc (.cells #[.slice A R.length c] 22)
    have b2 := (a2.bl gV).alloc (.cells #[.slice A R.length c] 22)
    have b3 := (a3.bl gV).alloc (.cells #[.slice A R.length c] 22)
    have bq := At.new V #[.slice A R.length c] 22
    have ownV := own.bl ((Bl.refl V).alloc (.cells #[.slice A R.length c] 22))
    have hlw := hI.cs.lt
    have hlm := hI.hd.lt
    have hRb : ∀ r ∈ R, -1000000 ≤ r.a ∧ r.c ≤ 1000000 ∧ -1000000 ≤ r.b ∧ r.d ≤ 1000000 ∧ r.a ≤ 1000000 ∧ r.b ≤ 1000000 := fun r hr => by
      obtain ⟨q1, q2, q3, q4⟩ := hQ.inr r hr
      rw [g256_mem] at q1 q2 q3 q4
      omega
    have hRl : R.length ≤ 100000000 := Nat.le_trans (reg_len hQ.reg hQ.inr grid256) (by decide)
    have hpt : ∀ x y, ((x, y) : Int × Int) ∈ ptsL R → InP W H (x, y) ∧ ax ≤ x ∧ ay ≤ y := fun x y h => by
      have h1 := ptsL_mem.1 h
      dsimp only at h1
      rw [hQ.has, cutL_has, hSh] at h1
      have h2 := (Bool.and_eq_true_iff.1 (Bool.and_eq_true_iff.1 h1).1)
      have h3 := of_decide_eq_true (show decide (0 ≤ x ∧ x < (W : Int) ∧ 0 ≤ y ∧ y < (H : Int)) = true from h2.2)
      exact ⟨⟨h3.1, h3.2.1, h3.2.2.1, h3.2.2.2⟩, lyHas_ge m1 h2.1⟩
    obtain ⟨f, hf⟩ : ∃ f, f = lyF W2 H2 M s ax ay al := ⟨_, rfl⟩
    have hfm : ∀ p was, mayC was = true → mayC (f p was) = true := fun p was h => by rw [hf]; exact lyF_may s ax ay al p hMM h
    have hfo : ∀ x y was, f (x, y) was = ov (fd (atV W2 H2 M ((x - ax) / s) ((y - ay) / s)) al) was := fun x y was => by rw [hf]; rfl
    have hpost : ∀ V', Img V' pm pc W H (drawP W f L (ptsL R)) → w.grownBy V' (some pc) → DrawQ w pm pc W H L (lyF W2 H2 M s ax ay al) S R0 (.returned (.int .i64 ((ptsL R).length : Nat))) V' := fun V' h1 h2 => ⟨R, hQ, rfl, h2, by rw [← hf]; exact h1⟩
    clear hf
    gi_wp2
    obtain ⟨Z, hZ⟩ : ∃ Z, Z = V.alloc (.cells #[.slice A R.length c] 22) := ⟨_, rfl⟩
    have hzZ : Z.heap.size = V.heap.size + 1 := by rw [hZ]; simp
    have GZ : Bl w Z := by rw [hZ]; exact GV.alloc _
    rw [← hZ] at IV JV b1 b2 b3 bq ownV ⊢
    clear hZ
    replace hpost := Lib.hid hpost
    replace hfm := Lib.hid hfm
    replace hfo := Lib.hid hfo
    have hm32 : ∀ c ∈ M, C32 c := fun c hc => (hMM c hc).1
    refine wpIn_rangeFunc_ownG rfl (by omega) (gf := 96) (lb := #[.pointer (some ⟨V.heap.size, 0, none⟩)]) rfl trivial (enters_of Try.func96 (by kernel_rfl) rfl)
      (pointsStops (5 - 1) (by omega) V.heap.size _ (w.heap.size + 3) (fun k => k = pc ∨ k = w.heap.size + 2) A c R hRb hRl Z bq (fun k hk => by rcases hk with rfl | rfl <;> omega) (fun k hk => by rintro (rfl | rfl) <;> omega) ownV)
      (fun h k => h.trans k) (fun W l o o' _ hl ho _ => KeepC.book W l o o' hl ho) (Below.refl _ _) (fun _ => rfl)
      (fun pre V' => Img V' pm pc W H (drawP W f L (pre.map (·.1))) ∧ At V' w.heap.size #[.pointer (some ⟨pm, 0, none⟩)] 36 ∧ At V' (w.heap.size + 1) #[.pointer (some ⟨p2, 0, none⟩), .int .i64 ax, .int .i64 ay, .int .i64 s, .int .i64 al, .int .i64 cp.a, .int .i64 cp.b, .int .i64 cp.c, .int .i64 cp.d] 82 ∧ At V' (w.heap.size + 2) #[.int .i64 (pre.length : Nat)] 3 ∧ Img V' p2 c2 W2 H2 M ∧ w.grownBy V' (some pc) ∧ MayL (drawP W f L (pre.map (·.1))))
      (fun _ _ _ => False)
      ((ownImg _ _ _ _ _ _).and ((ownAt _ _ _ _).and ((ownAt _ _ _ _).and ((ownAt _ _ _ _).and ((ownImg _ _ _ _ _ _).and ((ownBy _ (by omega)).and (ownFrom_pure _ _)))))))
      (fun _ _ _ _ _ hs _ _ => hs)
      ⟨IV, b1, b2, b3, JV, GZ.byr _, hL⟩
      (fun x => { tmps := #[.pointer (some ⟨pm, 0, none⟩), .agg #[.pointer (some ⟨p2, 0, none⟩), .int .i64 ax, .int .i64 ay, .int .i64 s, .int .i64 al, .int .i64 cp.a, .int .i64 cp.b, .int .i64 cp.c, .int .i64 cp.d], .slice A0 R0.length k0,
          .pointer (some ⟨w.heap.size, 0, none⟩), .pointer (some ⟨w.heap.size + 1, 0, none⟩), undef, .int .i64 0, .pointer (some ⟨w.heap.size + 2, 0, none⟩),  .int .i64 x.1.1, .int .i64 x.1.2, undef, undef,
          .pointer (some ⟨w.heap.size + 1, 0, none⟩), .pointer (some ⟨p2, 0, none⟩), .pointer (some ⟨pm, 0, none⟩), .bool false, undef, undef, undef,
          .agg #[.pointer (some ⟨p2, 0, none⟩), .int .i64 ax, .int .i64 ay, .int .i64 s, .int .i64 al, .int .i64 cp.a, .int .i64 cp.b, .int .i64 cp.c, .int .i64 cp.d], .agg #[.int .i64 bx.a, .int .i64 bx.b, .int .i64 bx.c, .int .i64 bx.d], .pointer (some ⟨pm, 0, none⟩), .agg #[.int .i64 0, .int .i64 0, .int .i64 W, .int .i64 H], .agg #[.int .i64 S.a, .int .i64 S.b, .int .i64 S.c, .int .i64 S.d], .slice A0 R0.length k0, .slice A R.length c,
          .func (.func 96) #[] #[.pointer (some ⟨V.heap.size, 0, none⟩)],
           .int .i64 x.1.1, .int .i64 x.1.2, undef, undef, undef, undef, undef, undef, undef, undef, undef, undef, undef, undef, undef, undef, undef, undef, undef, undef, undef, undef, undef], defers := [] }) ?assign ?body ?done ?stop
    case assign =>
      intro l x W' K' hK'
      dsimp only [ptV]
      gi_wp2
      exact hK'
    case body =>
      rintro l pre ⟨⟨px, py⟩, hp⟩ W' ⟨hi, i0, i1, i2, hj, hby, hF⟩ hlen
      obtain ⟨hin, hax, hay⟩ := hpt px py hp
      have hw2 := hI.w2
      have hh2 := hI.h2
      obtain ⟨i, j, he, hiW, hjH⟩ := hin.nat
      injection he with he1 he2
      subst he1 he2
      have hsn : drawP W f L ((pre ++ [(⟨((i : Int), (j : Int)), hp⟩ : Pt R)]).map (·.1)) = (drawP W f L (pre.map (·.1))).set (j * W + i) (f ((i : Int), (j : Int)) ((drawP W f L (pre.map (·.1))).getD (j * W + i) 0)) := by
        rw [List.map_append]
        show drawP W f L (pre.map (·.1) ++ [((i : Int), (j : Int))]) = _
        rw [drawP_snoc, ixP_nat]
      have hFl : (drawP W f L (pre.map (·.1))).length = W * H := by rw [drawP_len, hI.len]
      have hlp : (ptsL R).length ≤ 100000 := pts_len hI.w1 hI.w2 hI.h2 (reg_nodup hQ.reg) (fun p hp => (hpt p.1 p.2 hp).1)
      have hk : j * W + i < W * H := row_of hiW hjH
      generalize drawP W f L (pre.map (·.1)) = F at *
      obtain ⟨q, hq⟩ : ∃ q, F[j * W + i]? = some q := list_at (by rw [hFl]; exact hk)
      have hgd : F.getD (j * W + i) 0 = q := by rw [List.getD_eq_getElem?_getD, hq]; rfl
      rw [hgd, hfo.out] at hsn
      obtain ⟨hq32, hqm⟩ := hF q (List.mem_of_getElem? hq)
      have hm := hfm.out ((i : Int), (j : Int)) q hqm
      rw [hfo.out] at hm
      have cA := fun w' (g : Gr W' w') => at1 w' (hi.gr g) i j hiW hjH q hq
      have cP := fun w' (g : Gr W' w') => pcolAt1 (X := []) ax ay s al cp (i : Int) (j : Int) w' (hj.gr g).x hm32 m1 m2 (by unfold Far; omega) (by unfold Far; omega) (by unfold Far; omega) (by unfold Far; omega) hax hay
      have hk32 := fd_c32 (atV W2 H2 M (((i : Int) - ax) / s) (((j : Int) - ay) / s)) al
      generalize fd (atV W2 H2 M (((i : Int) - ax) / s) (((j : Int) - ay) / s)) al = kc at *
      have ho32 := ov_c32 kc q
      have cX := fun (w' : World) (b : Nat) (h : At w' b #[.int .u32 kc] 39) => pix1 q (some ⟨b, 0, none⟩) 1 [kc] w' (.inr ⟨b, 0, rfl, row_one h⟩) (by simp) hq32 (by intro d hd; simp at hd; subst hd; exact hk32)
      have hpx : pixL q [kc] = ov kc q := rfl
      rw [hpx] at cX
      have cS := fun w' (g : Gr W' w') => set1 w' (hi.gr g) i j hiW hjH (ov kc q) ho32 hm
      have hF2 : MayL (F.set (j * W + i) (ov kc q)) := mayL_set hF ho32 hm
      have hpre : (((pre ++ [(⟨((i : Int), (j : Int)), hp⟩ : Pt R)]).length : Nat) : Int) = (pre.length : Int) + 1 := by simp
      generalize ov kc q = v at *
      dsimp only
      replace hsn := Lib.hid hsn
      replace hpre := Lib.hid hpre
      replace hFl := Lib.hid hFl
      clear hgd hpx hq hF hm hqm hq32 hk32 ho32
      obtain ⟨u0, hu0⟩ : ∃ u0 : World, u0 = W' := ⟨_, rfl⟩
      have s1 := i0.cell 0
      gi_wp2_with (refine ⟨trivial, ?_⟩; gi_at_call 73; refine (CallsIn.inRound l (callsIn_wide.2 (cA _ (Gr.refl _)))).mono ?_; rintro e w3 ⟨rfl, g3⟩)
      rename_i K2 hK2
      subst hu0
      have rest2 : ∀ (Y : World) (kb : Nat), Img Y pm pc W H (F.set (j * W + i) v) → At Y (w.heap.size + 2) #[.int .i64 (pre.length : Nat)] 3 → At Y w.heap.size #[.pointer (some ⟨pm, 0, none⟩)] 36 → At Y (w.heap.size + 1) #[.pointer (some ⟨p2, 0, none⟩), .int .i64 ax, .int .i64 ay, .int .i64 s, .int .i64 al, .int .i64 cp.a, .int .i64 cp.b, .int .i64 cp.c, .int .i64 cp.d] 82 → Img Y p2 c2 W2 H2 M → w.grownBy Y (some pc) → KeepsOthers u0 Y → KeepC (fun k => k = pc ∨ k = w.heap.size + 2) u0 Y →
          K2 { tmps := #[.pointer (some ⟨pm, 0, none⟩), .agg #[.pointer (some ⟨p2, 0, none⟩), .int .i64 ax, .int .i64 ay, .int .i64 s, .int .i64 al, .int .i64 cp.a, .int .i64 cp.b, .int .i64 cp.c, .int .i64 cp.d], .slice A0 R0.length k0,
          .pointer (some ⟨w.heap.size, 0, none⟩), .pointer (some ⟨w.heap.size + 1, 0, none⟩), undef, .int .i64 0, .pointer (some ⟨w.heap.size + 2, 0, none⟩),  .int .i64 (i : Int), .int .i64 (j : Int), .int .u32 q, .bool true,
          .pointer (some ⟨w.heap.size + 1, 0, none⟩), .pointer (some ⟨p2, 0, none⟩), .pointer (some ⟨pm, 0, none⟩), .bool false, undef, undef, undef,
          .agg #[.pointer (some ⟨p2, 0, none⟩), .int .i64 ax, .int .i64 ay, .int .i64 s, .int .i64 al, .int .i64 cp.a, .int .i64 cp.b, .int .i64 cp.c, .int .i64 cp.d], .agg #[.int .i64 bx.a, .int .i64 bx.b, .int .i64 bx.c, .int .i64 bx.d], .pointer (some ⟨pm, 0, none⟩), .agg #[.int .i64 0, .int .i64 0, .int .i64 W, .int .i64 H], .agg #[.int .i64 S.a, .int .i64 S.b, .int .i64 S.c, .int .i64 S.d], .slice A0 R0.length k0, .slice A R.length c,
          .func (.func 96) #[] #[.pointer (some ⟨V.heap.size, 0, none⟩)],
           .int .i64 (i : Int), .int .i64 (j : Int), .tuple #[.int .u32 q, .bool true], .pointer (some ⟨pm, 0, none⟩), .int .i64 (i : Int), .int .i64 (j : Int), .tuple #[.int .u32 q, .bool true], .int .u32 q, .bool true,
            .pointer (some ⟨pm, 0, none⟩), .int .i64 (i : Int), .int .i64 (j : Int), .int .u32 q, .agg #[.pointer (some ⟨p2, 0, none⟩), .int .i64 ax, .int .i64 ay, .int .i64 s, .int .i64 al, .int .i64 cp.a, .int .i64 cp.b, .int .i64 cp.c, .int .i64 cp.d], .int .i64 (i : Int), .int .i64 (j : Int), .int .u32 kc, .slice (some ⟨kb, 0, none⟩) 1 1, .int .u32 v, .int .i64 0, undef, undef, undef], defers := [] } Y := by
        intro Y kb hiY i2Y i0Y i1Y hjY hbyY hkY hcY
        refine hK2 _ _ ?_
        clear hK2
        have z0 : Y.cell? ⟨w.heap.size + 2, 0, none⟩ = some (.int .i64 (pre.length : Nat)) := i2Y.cell 0
        have z1 : Y.frozen? ⟨w.heap.size + 2, 0, none⟩ = false := i2Y.free 0
        have hpl : (pre.length : Int) ≤ 1000000 := by omega
        gi_wp2
        refine ⟨(hkY.trans (KeepsOthers.setCell _ _ _)).from _, hcY.trans (KeepC.set _ _ 0 _ (.inr rfl)), ?_, i0Y.far (p := ⟨w.heap.size + 2, 0, none⟩) (by simp) _, i1Y.far (p := ⟨w.heap.size + 2, 0, none⟩) (by simp) _, ?_, ?_, ?_, ?_⟩
        · rw [hsn.out]
          exact hiY.kept (by_set (p := ⟨w.heap.size + 2, 0, none⟩) (by_refl Y (some (w.heap.size + 2))) _) (by simp; omega) (by simp; omega)
        · rw [hpre.out]
          simpa using i2Y.put 0 (.int .i64 ((pre.length : Int) + 1))
        · have hlt2 := hJ.hd.lt
          have hlt3 := hJ.cs.lt
          exact hjY.kept (by_set (p := ⟨w.heap.size + 2, 0, none⟩) (by_refl Y (some (w.heap.size + 2))) _) (by simp; omega) (by simp; omega)
        · exact by_new hbyY (p := ⟨w.heap.size + 2, 0, none⟩) (by simp) _
        · rw [hsn.out]; exact hF2
      have i03 := (i0.gr g3).drew
      have i13 := (i1.gr g3).drew
      have s3 : w3.cell? ⟨w.heap.size, 0, none⟩ = some (.pointer (some ⟨pm, 0, none⟩)) := i03.cell 0
      have l0 : w3.cell? ⟨w.heap.size + 1, 0, none⟩ = some (.pointer (some ⟨p2, 0, none⟩)) := i13.cell 0
      have l1 : w3.cell? ⟨w.heap.size + 1, 1, none⟩ = some (.int .i64 ax) := i13.cell 1
      have l2 : w3.cell? ⟨w.heap.size + 1, 2, none⟩ = some (.int .i64 ay) := i13.cell 2
      have l3 : w3.cell? ⟨w.heap.size + 1, 3, none⟩ = some (.int .i64 s) := i13.cell 3
      have l4 : w3.cell? ⟨w.heap.size + 1, 4, none⟩ = some (.int .i64 al) := i13.cell 4
      have l5 : w3.cell? ⟨w.heap.size + 1, 5, none⟩ = some (.int .i64 cp.a) := i13.cell 5
      have l6 : w3.cell? ⟨w.heap.size + 1, 6, none⟩ = some (.int .i64 cp.b) := i13.cell 6
      have l7 : w3.cell? ⟨w.heap.size + 1, 7, none⟩ = some (.int .i64 cp.c) := i13.cell 7
      have l8 : w3.cell? ⟨w.heap.size + 1, 8, none⟩ = some (.int .i64 cp.d) := i13.cell 8
      clear s1
      refine wpIn_mono (Q := Exit.then K2 (fun _ _ _ => False)) ?_ then_false
      refine wpIn_region_round (fun w' => w'.cell? ⟨w.heap.size, 0, none⟩ = some (.pointer (some ⟨pm, 0, none⟩))) mixed (by kernel_rfl) (fun ⟨_, _, h⟩ => h) ?_
      have hS0 : w3.drew.cell? ⟨w.heap.size, 0, none⟩ = some (.pointer (some ⟨pm, 0, none⟩)) := i03.cell 0
      refine wpAnyH_take (i := 1) (v := ?_) rfl (by kernel_rfl) (by kernel_rfl) (by kernel_rfl) (fun _ _ _ h => h) (Or.inl ⟨by rfl, ?hy1⟩) (by assumption) ?rest1
      case hy1 => intro w' hSw; (try dsimp only at hSw); go_simp; (try with_reducible rfl)
      simp only [Act.put, List.setIfInBounds_toArray]
      refine wpAnyH_take (i := 2) (v := ?_) rfl (by kernel_rfl) (by kernel_rfl) (by kernel_rfl) (fun _ _ _ h => h) (Or.inl ⟨by rfl, ?hy2⟩) (by assumption) ?rest2
      case hy2 => intro w' hSw; (try dsimp only at hSw); go_simp; (try with_reducible rfl)
      simp only [Act.put]
      refine wpAnyH_take (i := 3) (v := ?_) rfl (by kernel_rfl) (by kernel_rfl) (by kernel_rfl) (fun _ _ _ h => h) (Or.inl ⟨by rfl, ?hy3⟩) (by assumption) ?rest3
      case hy3 => intro w' hSw; (try dsimp only at hSw); go_simp; (try with_reducible rfl)
      simp only [Act.put]
      refine wpAnyH_take (i := 5) (v := ?_) rfl (by kernel_rfl) (by kernel_rfl) (by kernel_rfl) (fun _ _ _ h => h) (Or.inl ⟨by rfl, ?hy5⟩) (by assumption) ?rest5
      case hy5 => intro w' hSw; (try dsimp only at hSw); go_simp; (try with_reducible rfl)
      simp only [Act.put]
      refine wpAnyH_take (i := 6) (v := ?_) rfl (by kernel_rfl) (by kernel_rfl) (by kernel_rfl) (fun _ _ _ h => h) (Or.inl ⟨by rfl, ?hy6⟩) (by assumption) ?rest6
      case hy6 => intro w' hSw; (try dsimp only at hSw); go_simp; (try with_reducible rfl)
      simp only [Act.put]
      refine wpAnyH_take (i := 0) (v := ?_) rfl (by kernel_rfl) (by kernel_rfl) (by kernel_rfl) (fun _ _ _ h => h) (Or.inl ⟨by rfl, ?hy0⟩) (by assumption) ?rest0
      case hy0 => intro w' hSw; (try dsimp only at hSw); go_simp; (try with_reducible rfl)
      simp only [Act.put]
      refine wpAnyH_ready (rs := [4]) (by kernel_rfl) (by simp) (AllReadyH.cons rfl (fun K9 hK9 => ?_) AllReadyH.nil)
      go_simp
      refine hK9.out _ _ hS0 (fun _ => ?_)
      clear hK9 K9
      try simp only [Act.put, List.setIfInBounds_toArray, List.set_cons_zero, List.set_cons_succ]
      refine wpAnyH_ready (rs := [7]) (by kernel_rfl) (by simp) (AllReadyH.cons rfl (fun K9 hK9 => ?_) AllReadyH.nil)
      go_simp
      refine (cP _ g3.drew).mono ?_
      rintro e w4 ⟨rfl, g4⟩
      have i04 := i03.gr g4
      have hS4 : w4.cell? ⟨w.heap.size, 0, none⟩ = some (.pointer (some ⟨pm, 0, none⟩)) := i04.cell 0
      have hlt4 := i04.lt
      dsimp only
      refine hK9.out _ _ hS4 (fun _ => ?_)
      clear hK9 K9
      try simp only [Act.put, List.setIfInBounds_toArray, List.set_cons_zero, List.set_cons_succ]
      refine wpAnyH_ready (rs := [8]) (by kernel_rfl) (by simp) (AllReadyH.cons rfl (fun K9 hK9 => ?_) AllReadyH.nil)
      go_simp
      refine hK9.out _ _ ((i04.alloc _).cell 0) (fun _ => ?_)
      clear hK9 K9
      try simp only [Act.put, List.setIfInBounds_toArray, List.set_cons_zero, List.set_cons_succ]
      refine wpAnyH_ready (rs := [9]) (by kernel_rfl) (by simp) (AllReadyH.cons rfl (fun K9 hK9 => ?_) AllReadyH.nil)
      go_simp
      refine (cX _ _ (At.new w4 _ _)).mono ?_
      rintro e w5 ⟨rfl, g5⟩
      have hS5 : w5.cell? ⟨w.heap.size, 0, none⟩ = some (.pointer (some ⟨pm, 0, none⟩)) := ((i04.alloc _).gr g5).cell 0
      dsimp only
      refine hK9.out _ _ hS5 (fun _ => ?_)
      clear hK9 K9
      try simp only [Act.put, List.setIfInBounds_toArray, List.set_cons_zero, List.set_cons_succ]
      refine wpAnyH_ready (rs := [10]) (by kernel_rfl) (by simp) (AllReadyH.cons rfl (fun K9 hK9 => ?_) AllReadyH.nil)
      go_simp
      refine (cS _ ((((g3.drew).trans g4).alloc _).trans g5)).mono ?_
      rintro e w6 ⟨rfl, b6, I6⟩
      have g35 := ((((g3.drew).trans g4).alloc (.cells #[.int .u32 kc] 39)).trans g5)
      have hw6 := hI.cs.lt
      dsimp only
      refine hK9.out _ _ (((i0.gr g35).kept b6 (by simp; omega)).cell 0) (fun _ => ?_)
      clear hK9 K9
      try simp only [Act.put, List.setIfInBounds_toArray, List.set_cons_zero, List.set_cons_succ]
      refine wpAnyH_done (by kernel_rfl) ?_ _
      refine rest2 w6 w4.heap.size I6 ((i2.gr g35).kept b6 (by simp; omega)) ((i0.gr g35).kept b6 (by simp; omega)) ((i1.gr g35).kept b6 (by simp; omega)) ((hj.gr g35).kept b6 (by simpa using h1) (by simpa using h2)) (by_trans (by_gr hby g35) b6) (g35.keeps.trans (KeepsOthers.of_grownBy b6 (fun k o e ho => by cases e; have := (hi.gr g35).cs; rw [show w5.heap[pc]? = _ from this] at ho; cases ho; rfl))) ((KeepC.gr g35).trans (KeepC.by b6 (.inl rfl)))
    case done =>
      rintro D ys W' hD hys ⟨hi, i0, i1, i2, hj, hby, hF⟩ hK'
      have hlen : ys.length = (ptsL R).length := by have := congrArg List.length hys; simpa using this
      rw [hys] at hi
      rw [hlen] at i2
      clear hys hF
      have z0 : W'.cell? ⟨w.heap.size + 2, 0, none⟩ = some (.int .i64 ((ptsL R).length : Nat)) := i2.cell 0
      gi_wp2
      refine ⟨by simp, .inl ⟨_, _, rfl, run_takeDeferred hK', ?_⟩⟩
      have hgp := grownBy_putObj' W' D (.deferred none)
      have hq := hpost.out _ (hi.kept hgp (by simp; omega) (by simp; omega)) (by_row hby hgp (by omega))
      refine ⟨_, results_tmp rfl _ _ _, ?_⟩
      exact hq
    case stop =>
      rintro D c pre W' _ _ h _
      exact h.elim
  obtain ⟨t0, t1⟩ : U.cell? ⟨w.heap.size, 0, none⟩ = some (.pointer (some ⟨pm, 0, none⟩)) ∧ True := ⟨a1.cell 0, trivial⟩
  have l0 : U.cell? ⟨w.heap.size + 1, 0, none⟩ = some (.pointer (some ⟨p2, 0, none⟩)) := a2.cell 0
  have l1 : U.cell? ⟨w.heap.size + 1, 1, none⟩ = some (.int .i64 ax) := a2.cell 1
  have l2 : U.cell? ⟨w.heap.size + 1, 2, none⟩ = some (.int .i64 ay) := a2.cell 2
  have l3 : U.cell? ⟨w.heap.size + 1, 3, none⟩ = some (.int .i64 s) := a2.cell 3
  have l4 : U.cell? ⟨w.heap.size + 1, 4, none⟩ = some (.int .i64 al) := a2.cell 4
  have l5 : U.cell? ⟨w.heap.size + 1, 5, none⟩ = some (.int .i64 cp.a) := a2.cell 5
  have l6 : U.cell? ⟨w.heap.size + 1, 6, none⟩ = some (.int .i64 cp.b) := a2.cell 6
  have l7 : U.cell? ⟨w.heap.size + 1, 7, none⟩ = some (.int .i64 cp.c) := a2.cell 7
  have l8 : U.cell? ⟨w.heap.size + 1, 8, none⟩ = some (.int .i64 cp.d) := a2.cell 8
  have GU := (Gr.refl U).drew
  refine wpIn_mono (Q := Exit.then K (fun _ _ _ => False)) ?_ then_false
  gi_region_with_o (first
    | (refine ⟨trivial, ?_⟩; gi_at_call 83; refine (callsIn_wide.2 (cB _ G0.drew)).mono ?_; rintro e w2 ⟨rfl, g2⟩; have A2 := (a1.drew).gr g2; have y0 : w2.cell? ⟨w.heap.size, 0, none⟩ = some (.pointer (some ⟨pm, 0, none⟩)) := A2.cell 0)
    | (refine ⟨trivial, ?_⟩; gi_at_call 60; refine (callsIn_wide.2 (cX _ (G0.drew.trans g2))).mono ?_; rintro e w3 ⟨rfl, g3⟩)
    | (refine ⟨trivial, ?_⟩; gi_at_call 63; refine (callsIn_wide.2 (cC _)).mono ?_; rintro e w4 ⟨rfl, g4⟩)
    | (refine ⟨trivial, ?_⟩; gi_at_call 82; refine (callsIn_wide.2 (cW _ (((G0.drew.trans g2).trans g3).trans g4))).mono ?_; rintro e w5 ⟨A, c, R, rfl, hc5, own5, hQ5, g5⟩)
    | (refine ⟨trivial, ?_⟩; gi_at_call 81; refine (callsIn_wide.2 (points1 _ _ _ _)).mono ?_; rintro e w6 ⟨rfl, rfl⟩))
  all_goals
    have g24 := (GU.trans g2).trans (g3.trans g4)
    exact rest w5 A c R (g24.bl.trans g5) (own5.base (by have := g24.size; omega)) hQ5

end Go.Proofs.Ytafceieenhogpaa
namespace Go.Proofs.Ytafceieenhogpaa
open Go.RowKit Go.Sort

theorem drawP_same (W : Nat) {f : Int × Int → Int → Int} (hf : ∀ p q, C32 q → f p q = q) : ∀ (ps : List (Int × Int)) (L : List Int), (∀ c ∈ L, C32 c) → drawP W f L ps = L
  | [], _, _ => rfl
  | p :: ps, L, hL => by
    show drawP W f (L.set (ixP W p) (f p (L.getD (ixP W p) 0))) ps = L
    have h1 : L.set (ixP W p) (f p (L.getD (ixP W p) 0)) = L := by
      by_cases h : ixP W p < L.length
      · rw [List.getD_eq_getElem?_getD, List.getElem?_eq_getElem h]
        simp only [Option.getD_some]
        rw [hf _ _ (hL _ (List.getElem_mem h))]
        exact List.set_getElem_self h
      · exact List.set_eq_of_length_le (by omega)
    rw [h1]
    exact drawP_same W hf ps L hL
theorem lyF_none (W H : Nat) (M : List Int) (s ax ay : Int) (p : Int × Int) (q : Int) (hq : C32 q) : lyF W H M s ax ay 0 p q = q := by
  unfold lyF; rw [fd_none, ov_clear hq]
theorem cut_count {R : List Rc} {S : Rc} (hn : IsReg R) (h : ∀ x y, hasL R x y = hasB S.a S.b S.c S.d x y) (h1 : S.a ≤ S.c) (h2 : S.b ≤ S.d) : ((ptsL R).length : Int) = areaI S.a S.b S.c S.d := by
  have hp : (ptsL R).Perm (rectP S.a S.b (nX S) (nY S)) := (List.perm_ext_iff_of_nodup (reg_nodup hn) (rectP_nodup _ _ _ _)).2 fun p => by
    rw [ptsL_mem, h, rectP_mem]
    unfold hasB nX nY
    simp only [decide_eq_true_eq]
    omega
  rw [hp.length_eq, rectP_len]
  unfold areaI nX nY
  rw [Int.natCast_mul, Int.toNat_of_nonneg (by omega), Int.toNat_of_nonneg (by omega), Int.mul_comm]
theorem lyCut_may (cp : Rc) (W2 H2 : Nat) (s ax ay : Int) {W H : Nat} (hW : W ≤ 256) (hH : H ≤ 256) : mayB (lyCut cp W2 H2 s ax ay W H).a (lyCut cp W2 H2 s ax ay W H).b (lyCut cp W2 H2 s ax ay W H).c (lyCut cp W2 H2 s ax ay W H).d = true := by
  have h := lyCut_bd cp W2 H2 s ax ay hW hH
  have h2 : (lyCut cp W2 H2 s ax ay W H).a ≤ (lyCut cp W2 H2 s ax ay W H).c ∧ (lyCut cp W2 H2 s ax ay W H).b ≤ (lyCut cp W2 H2 s ax ay W H).d := by
    unfold lyCut cutR
    split
    · simp
    · rename_i e
      simp [emptyB] at e
      dsimp only
      omega
  unfold mayB
  simp only [decide_eq_true_eq]
  omega
/-- What is drawn on a whole image by a layer of the alpha 0. -/
theorem none_of {cp : Rc} {W2 H2 W H : Nat} {s ax ay : Int} {L M : List Int} {R : List Rc} (hW : W ≤ 256) (hH : H ≤ 256) (hL : MayL L) (hs : 1 ≤ s) (hQ : OfQ g256 g256 (cutL (lyCut cp W2 H2 s ax ay W H) [⟨0, 0, W, H⟩]) R) :
    drawP W (lyF W2 H2 M s ax ay 0) L (ptsL R) = L ∧ ((ptsL R).length : Int) = areaI (lyCut cp W2 H2 s ax ay W H).a (lyCut cp W2 H2 s ax ay W H).b (lyCut cp W2 H2 s ax ay W H).c (lyCut cp W2 H2 s ax ay W H).d := by
  refine ⟨drawP_same W (fun p q hq => lyF_none _ _ _ _ _ _ p q hq) _ _ (fun c hc => (hL c hc).1), ?_⟩
  have hm := lyCut_may cp W2 H2 s ax ay hW hH
  unfold mayB at hm
  simp only [decide_eq_true_eq] at hm
  refine cut_count hQ.reg (fun x y => ?_) hm.2.1 hm.2.2.2.2.1
  rw [hQ.has, cutL_has, lyCut_has _ _ _ _ _ _ _ hs]
  simp [hasL]

end Go.Proofs.Ytafceieenhogpaa
