/-
  What is proved: the walk of the statement StackDown. No conditions.
-/
import Derived.Test.YtgjoipndhlngnaaSku
import Derived.Test.YtgjoipndhlngnaaRrz
import Derived.Deep.QuietTactic
import Derived.BigQuiet
namespace Go.Proofs.Ytgjoipndhlngnaa
open Go.RowKit Go.Sort Go.Shelf Go.Deep

attribute [local go_sem] Oper.semAt_some
attribute [local go_sem ↓] eqlP eqlK neqK neqP run_min2

set_option maxRecDepth 100000 in
set_option maxHeartbeats 4000000 in
theorem downIterG (Kp : World → World → Prop) (hKr : ∀ A, Kp A A) (hKt : ∀ {A B C : World}, Kp A B → Kp B C → Kp A C) (n : Nat) (hn : 1 ≤ n) (l bq : Nat) (A : Option Addr) (c : Nat) (L : List Ky) (J Jx : List Ky → World → Prop) (hlen : L.length ≤ 100000)
    (_hA : ∀ pre A B, J pre A → A.grownBy B none → J pre B)
    (hY : ∀ pre p W1, J pre W1 → pre.length < L.length → YieldAt Fence.wide (n - 1) Try.prog l (kP p) W1 fun e W' =>
      (e = .returned (.bool true) ∧ J (pre ++ [p]) W' ∧ Kp W1 W') ∨ (e = .returned (.bool false) ∧ Jx (pre ++ [p]) W'))
    (V : World) (hRow : ∀ wr, Kp V wr → wr.cell? ⟨bq, 0, none⟩ = some (.slice A L.length c) ∧ shK.Rd wr A L) (h0 : J [] V) :
    CallsIn Fence.wide n Try.prog 37 #[.func (.yield l) #[] #[], .pointer (some ⟨bq, 0, none⟩)] V fun e W' => (∃ v, e = .returned v) ∧
      (J L.reverse W' ∨ (∃ pre : List Ky, pre <+: L.reverse ∧ Jx pre W')) := by
  refine callsIn_of_wp Try.func37 rfl trivial ?_ rfl
  simp only [Try.ntmps37, List.size_toArray, List.length_cons, List.length_nil, Nat.reduceAdd, Nat.reduceSub, Array.replicate_succ, Array.replicate_zero, List.push_toArray, List.append_toArray, List.nil_append, List.cons_append]
  have q0 := (hRow V (hKr _)).1
  obtain ⟨N, hN⟩ : ∃ N, N = L.length := ⟨_, rfl⟩
  rw [← hN] at q0 hlen
  have hN' := Lib.hid hN
  clear hN
  gi_wp2
  clear q0
  gi_loopw [3] (fun i wr => ∃ (j : Nat) (pre : List Ky), j ≤ N ∧ i = .int .i64 ((N : Int) - 1 - j) ∧ Hid (pre = L.reverse.take j) ∧ J pre wr ∧ Kp V wr)
    (fun i _ => (RowKit.intOf i + 1).toNat)
  case atStart => exact ⟨0, [], Nat.zero_le _, by simp, Lib.hid (by simp), h0, hKr _⟩
  case round =>
    obtain ⟨j, pre, hj, rfl, hpre, hJ, hK⟩ := hrel
    by_cases hlt : j < N
    · obtain ⟨m, hm⟩ : ∃ m, j + 1 + m = N := ⟨N - 1 - j, by omega⟩
      have hmz : (N : Int) - 1 - (j : Int) = (m : Int) := by omega
      rw [hmz]
      obtain ⟨p, hp⟩ := list_at (show m < L.length by have := hN'.out; omega)
      obtain ⟨r1, r2⟩ := hRow wr hK
      rw [← hN'.out] at r1
      obtain ⟨b, off, rfl, hrow⟩ := r2.opened (by have := hN'.out; omega)
      obtain ⟨e1, e2⟩ := k_at hrow hp
      have hpre2 : pre ++ [p] = L.reverse.take (j + 1) := by rw [hpre.out]; exact rev_take (by rw [← hN'.out]; exact hm) hp
      have hlen3 : pre.length < L.length := by rw [hpre.out, ← hN'.out]; have := List.length_take_le j L.reverse; omega
      have hYY := hY pre p wr hJ hlen3
      have rv : kP p = #[.agg #[.int .i64 p.1, .int .i64 p.2]] := rfl
      rw [rv] at hYY
      have HP2 := Lib.hid hpre2
      have hmN : m < N := by omega
      have hmL : m < L.length := by have := hN'.out; omega
      clear hp hrow hpre2 rv hlen3
      obtain ⟨fn, tmps, assign, body, hyy, hRR⟩ := hYY
      gi_wp2_with fail
      refine hRR.mono ?_
      rintro e W3 (⟨rfl, hJ4, hk4⟩ | ⟨rfl, hJx4⟩)
      · gi_wp2
        go_roundw
        case rel => exact ⟨j + 1, _, by omega, by congr 1; omega, HP2, hJ4, hKt hK hk4⟩
        case measure => simp [RowKit.intOf]
      · gi_wp2
        refine bodyPost_ret (results_none rfl _ _ _) rfl ?_
        exact ⟨⟨_, rfl⟩, .inr ⟨_, by rw [HP2.out]; exact List.take_prefix _ _, hJx4⟩⟩
    · obtain rfl : j = N := by omega
      have hf := hpre.out
      rw [List.take_of_length_le (by simp; have := hN'.out; omega)] at hf
      subst hf
      rw [show (j : Int) - 1 - (j : Int) = -1 by omega]
      gi_wp2
      go_end0
      exact ⟨⟨_, rfl⟩, .inl hJ⟩

theorem downStopsG (Kp : World → World → Prop) (hKr : ∀ A, Kp A A) (hKt : ∀ {A B C : World}, Kp A B → Kp B C → Kp A C) (n : Nat) (hn : 1 ≤ n) (bq : Nat) (A : Option Addr) (c : Nat) (L : List Ky) (hlen : L.length ≤ 100000)
    (V : World) (hRow : ∀ W' wr, Bl V W' → Kp W' wr → wr.cell? ⟨bq, 0, none⟩ = some (.slice A L.length c) ∧ shK.Rd wr A L) :
    SeqStopsK Fence.wide n Try.prog 37 #[.pointer (some ⟨bq, 0, none⟩)] kP Kp
      (fun ys => ys = L.reverse) (fun pre => pre <+: L.reverse) L.length V := fun l J Jx W' hW' hJ _ hY h0 => by
  have gW : Bl V W' := hW'
  refine (downIterG Kp hKr (fun h k => hKt h k) n hn l bq A c L J Jx hlen (fun pre A B h hg => hJ pre A B none h hg (fun r e => by cases e)) hY W' (fun wr hK => hRow W' wr gW hK) h0).mono ?_
  rintro e w ⟨h1, h2⟩
  refine ⟨h1, h2.imp (fun h => ⟨_, rfl, h⟩) id⟩

theorem ownOwK {β γ : Type} {S : Shp β} {T : TypeId} (B B1 : Nat) (A : Option Addr) (c : Nat) (M : List β) : OwnFrom B (fun (_ : γ) V => S.Ow T V B1 A c M) := fun s X Y row hs hg hr => by
  refine hs.by hg ?_
  rcases hs.2 with ⟨e, _⟩ | ⟨b, cap, cur, e, _, h4, _⟩
  · injection e with e; exact .inl e
  · right
    intro e'
    injection e with e _ _
    rw [e] at e'
    obtain ⟨_, o, ho, hc⟩ := hr b e'.symm
    rw [show X.heap[b]? = _ from h4] at ho
    cases ho
    cases hc
theorem then_falseK {K : Act → World → Prop} {Q : Exit → Act → World → Prop} : ∀ e a w, Exit.then K (fun _ _ _ => False) e a w → Exit.then K Q e a w := by
  intro e a w h
  cases e <;> first | exact h | exact h.elim
theorem fn_nilK (f : Nat) (cap : Array Value) (w : World) : (binOp .eql 53 (.func (.func f) #[] cap) .nilFunc).run Try.prog w = .ok (.bool false) w := by
  have h : ∀ d : Nat, (Op.equalIn (d + 1) 53 (.func (.func f) #[] cap) .nilFunc).run Try.prog w = .ok false w := fun d => by
    simp [Op.equalIn, run_underlying Try.underlying53]
  simp only [binOp]
  simp [Op.equal, Op.maxDepth, h 9999]
/-- All cells stay but those of one block. -/
def KpB (b : Nat) (A B : World) : Prop := A.heap.size ≤ B.heap.size ∧ ∀ k cs t, k ≠ b → At A k cs t → At B k cs t
theorem KpB.refl (b : Nat) (A : World) : KpB b A A := ⟨Nat.le_refl _, fun _ _ _ _ h => h⟩
theorem KpB.trans {b : Nat} {A B C : World} (h : KpB b A B) (k : KpB b B C) : KpB b A C := ⟨Nat.le_trans h.1 k.1, fun i cs t hi ha => k.2 i cs t hi (h.2 i cs t hi ha)⟩
theorem KpB.book (b : Nat) (W : World) (l : Nat) (o o' : Obj) (hl : W.heap[l]? = some o) (ho : o.isCells = false) : KpB b W (W.putObj l o') := by
  refine ⟨by simp [World.putObj], fun k cs t _ ha => ha.grown (grownBy_putObj' W l o') (fun e => ?_)⟩
  have e' : k = l := by injection e
  subst e'
  unfold At at ha
  rw [ha] at hl
  cases hl
  cases ho
theorem KpB.gr {b : Nat} {A B : World} (g : Gr A B) : KpB b A B := ⟨g.size, fun _ _ _ _ ha => ha.gr g⟩
theorem KpB.set {b : Nat} (A : World) (v : Value) : KpB b A (A.setCell ⟨b, 0, none⟩ v) := ⟨(grownBy_setCell' A b v).size, fun k cs t hk ha => ha.grown (grownBy_setCell' A b v) (by simpa using hk)⟩

set_option maxRecDepth 100000 in
set_option maxHeartbeats 8000000 in
theorem down_core (AF : Option Addr) (cF : Nat) (LF : List Ky) (k : Ky) (w : World) (hF : shK.Rd w AF LF) (hFc : LF.length ≤ cF) (hFm : cF ≤ maxLen) :
    Calls Try.prog 5 #[.slice AF LF.length cF, kV k] w fun e w' => e = .returned (.bool true) ∧ Bl w w' := by
  obtain ⟨m, hm⟩ : ∃ m : Nat, m = min LF.length 9 := ⟨_, rfl⟩
  have hmz : min (LF.length : Int) 9 = (m : Int) := by omega
  have hm1 : m ≤ LF.length := by omega
  have hm6 : m ≤ 9 := by omega
  have hmc : m ≤ cF := by omega
  have hFm' : cF ≤ 9223372036854775807 := by unfold maxLen at hFm; omega
  obtain ⟨P, hP⟩ : ∃ P, P = LF.take m := ⟨_, rfl⟩
  have hPl : P.length = m := by rw [hP, List.length_take]; omega
  have hPr : shK.Rd w AF P := by
    rw [hP]
    rcases hF with h0 | ⟨b, off, h1, h2⟩
    · rw [h0]; exact .inl (by simp)
    · exact .inr ⟨b, off, h1, h2.take m⟩
  have cR := fun V (g : Bl w V) => rNewK (c := cF) (hPr.bl g) (by omega)
  rw [hPl] at cR
  have hNl : (newK P).length ≤ 9 := by have := new_len P; omega
  have hNd := new_nodup P
  generalize newK P = N at *
  clear hP hm hFm hPl hPr hF
  refine (callsIn_wide (n := 5)).1 ?_
  refine callsIn_of_wp_marks Try.func5 rfl trivial ?_ rfl
  simp only [Try.ntmps5, List.size_toArray, List.length_cons, List.length_nil, Nat.reduceAdd, Nat.reduceSub, Array.replicate_succ, Array.replicate_zero, List.push_toArray, List.append_toArray, List.nil_append, List.cons_append]
  have a3 := (At.new w (kC k) 27).alloc (.cells #[.bool false] 4)
  have a4 := At.newAt (w := w.alloc (.cells (kC k) 27)) (n := w.heap.size + 1) (by simp) #[.bool false] 4
  have G0 := ((Bl.refl w).alloc (.cells (kC k) 27)).alloc (.cells #[.bool false] 4)
  have cN := fun V => pNewK (A := none) (c := 0) (L := []) (w := V) (.inl rfl) (by simp)
  simp only [List.length_nil, show newK [] = [] from rfl] at cN
  gi_wp2_with (first
    | (refine ⟨trivial, ?_⟩; gi_at_call 9; refine (callsIn_wide.2 (cR _ G0)).mono ?_; rintro e w3 ⟨A9, c9, rfl, own9, g9⟩)
    | (refine ⟨trivial, ?_⟩; gi_at_call 8; refine (callsIn_wide.2 (cN _)).mono ?_; rintro e w4 ⟨pa, A0, c0, rfl, hpa, P4, g4⟩))
  have G3 := G0.trans g9
  have G4 := (G3.alloc (.cells #[.slice A9 N.length c9] 22)).trans g4
  have hs3 := g9.size
  simp at hs3
  have S0 : SS w w4 pa A0 c0 [] := ⟨⟨P4.hd, P4.own.low (by simp; omega), P4.nd⟩, by simp at hpa; omega, G4⟩
  have R0 : OwK w4 w.heap.size A9 c9 N := ((own9.bl ((Bl.refl w3).alloc (.cells #[.slice A9 N.length c9] 22))).bl g4).low (by simp; omega)
  have b5 := (At.new w3 #[.slice A9 N.length c9] 22).bl g4
  have b3 := ((a3.bl g9).alloc (.cells #[.slice A9 N.length c9] 22)).bl g4
  have b4 := ((a4.bl g9).alloc (.cells #[.slice A9 N.length c9] 22)).bl g4
  have hn5 : w.heap.size + 2 ≤ w3.heap.size := by omega
  obtain ⟨sz, hsz⟩ : ∃ sz, sz = w.heap.size := ⟨_, rfl⟩
  obtain ⟨q5, hq5⟩ : ∃ q5, q5 = w3.heap.size := ⟨_, rfl⟩
  rw [← hsz] at b3 b4 hn5 ⊢
  rw [← hq5] at b5 hn5 ⊢
  have hszw : w.heap.size ≤ sz := by omega
  clear a3 a4 G0 g9 own9 hpa P4 cR cN G3 hs3 g4 G4 hq5 hm1 hm6 hmc hmz hFc hFm'
  replace hsz := Lib.hid hsz
  gi_loopw [7] (fun iv wr => ∃ (i : Nat) (A : Option Addr) (c : Nat) (L : List Ky), i ≤ N.length ∧ iv = .int .i64 (i : Int) ∧ SS w wr pa A c L ∧ OwK wr w.heap.size A9 c9 N ∧ Hid (L = N.take i) ∧ At wr q5 #[.slice A9 N.length c9] 22 ∧ At wr sz (kC k) 27 ∧ At wr (sz + 1) #[.bool false] 4) (fun iv _ => N.length - (RowKit.intOf iv).toNat)
  case atStart => exact ⟨0, A0, c0, [], by omega, rfl, S0, R0, Lib.hid (by simp), b5, b3, b4⟩
  case round =>
    clear S0 R0 b5 b3 b4
    obtain ⟨i, A, c, L, hi, rfl, S, R, hL, b5, b3, b4⟩ := hrel
    have v5 : wr.cell? ⟨q5, 0, none⟩ = some (.slice A9 N.length c9) := b5.cell 0
    by_cases hli : i < N.length
    · obtain ⟨p, hp⟩ := list_at hli
      obtain ⟨b, off, hbA, hrow⟩ := R.rd.opened (by omega)
      obtain ⟨e1, e2⟩ := k_at hrow hp
      have hL2 : Hid (addK L p = N.take (i + 1)) := Lib.hid (by rw [hL.out]; exact add_take hNd hp)
      have hLl : L.length ≤ 9 := by rw [hL.out]; have := List.length_take_le i N; omega
      have cA := pAddK S.p (by omega) S.g.size p
      clear hp hrow
      subst hbA
      gi_wp2_with (refine ⟨trivial, ?_⟩; gi_at_call 20; refine (callsIn_wide.2 cA).mono ?_; rintro e w6 ⟨rfl, q6⟩)
      obtain ⟨A6, c6, S6, K6⟩ := S.next q6
      have R6 := R.kx K6 (S.p.xf (by decide) (by decide))
      go_roundw
      case rel => exact ⟨i + 1, A6, c6, addK L p, by omega, by simp, S6, R6, hL2, b5.kt K6 (S.p.xf (by decide) (by decide)), b3.kt K6 (S.p.xf (by decide) (by decide)), b4.kt K6 (S.p.xf (by decide) (by decide))⟩
      case measure => simp [RowKit.intOf]; omega
    · obtain rfl : i = N.length := by omega
      have hLN := hL.out
      rw [List.take_length] at hLN
      rw [hLN] at S
      clear hL hli hi hLN
      have cW := pDownK S.p (by omega)
      have hfn := fun cap V => fn_nilK 37 cap V
      have BX := Lib.hid (fun V (g : Bl wr V) => (show V.cell? ⟨sz, 0, none⟩ = some (.int .i64 k.1) ∧ V.cell? ⟨sz, 1, none⟩ = some (.int .i64 k.2) from ⟨(b3.bl g).cell 0, (b3.bl g).cell 1⟩))
      have cDr := Lib.hid (fun V (g : Bl wr V) => pDropK (S.p.bl g) (by omega) k)
      gi_wp2_with (first
        | (have gd := w7; clear gd; refine ⟨trivial, ?_⟩; gi_at_call 27; refine (callsIn_wide.2 (cDr.out _ g7)).mono ?_; rintro e w8 ⟨rfl, q8⟩; obtain ⟨A8, c8, S8, K8⟩ := (S.bl g7).next q8; have v58 : w8.cell? ⟨q5, 0, none⟩ = some (.slice A9 N.length c9) := ((b5.bl g7).kt K8 ((S.bl g7).p.xf (by decide) (by decide))).cell 0)
        | (refine ⟨trivial, ?_⟩; gi_at_call 26; refine (callsIn_wide.2 cW).mono ?_; rintro e w7 ⟨bq, AD, cD, rfl, hbq, aq, oq, g7⟩; obtain ⟨f3, f4⟩ := BX.out w7 g7))
      have hX : ∀ j, SX pa A j → j < wr.heap.size := fun j hj => by
        rcases hj with rfl | hj
        · exact S.p.hd.lt
        · exact S.p.own.ltn j hj
      have xf7 := fun {t : TypeId} (h1 : 59 ≠ t) (h2 : 26 ≠ t) => (S.bl g7).p.xf h1 h2
      have b58 := (b5.bl g7).kt K8 (xf7 (by decide) (by decide))
      have b48 := (b4.bl g7).kt K8 (xf7 (by decide) (by decide))
      have R8 := (R.bl g7).kx K8 (xf7 (by decide) (by decide))
      have aq8 := aq.kt K8 (xf7 (by decide) (by decide))
      have oq8 : OwP w8 wr.heap.size AD cD N := by
        refine ⟨oq.1, ?_⟩
        rcases oq.2 with hn | ⟨g, cap, cur, h1, h2, h3, h4⟩
        · exact .inl hn
        · exact .inr ⟨g, cap, cur, h1, h2, (show At w8 g cur 26 from At.kx h3 K8 (fun hx => by have := hX g hx; omega)), h4⟩
      have GB8 : w.grownBy w8 none := S8.g.byr none
      clear cW hfn BX cDr v5 v58 f3 f4 aq oq q8 K8 xf7 hX b5 b3 b4 R S
      have o := Obj.cells #[.int .i64 (N.length : Int)] 3
      obtain ⟨nb, hnb⟩ : ∃ nb, nb = w8.heap.size := ⟨_, rfl⟩
      have n0 : At (w8.alloc (.cells #[.int .i64 (N.length : Int)] 3)) nb #[.int .i64 (N.length : Int)] 3 := by rw [hnb]; exact At.new _ _ _
      have b5Z := b58.alloc (.cells #[.int .i64 (N.length : Int)] 3)
      have b4Z := b48.alloc (.cells #[.int .i64 (N.length : Int)] 3)
      have RZ := R8.bl ((Bl.refl w8).alloc (.cells #[.int .i64 (N.length : Int)] 3))
      have aqZ := aq8.alloc (.cells #[.int .i64 (N.length : Int)] 3)
      have oqZ := oq8.bl ((Bl.refl w8).alloc (.cells #[.int .i64 (N.length : Int)] 3))
      have GBZ : w.grownBy (w8.alloc (.cells #[.int .i64 (N.length : Int)] 3)) none := By.trans GB8 (((Bl.refl w8).alloc _).byr none)
      have h5n : q5 ≠ nb := by have := b58.lt; omega
      have h4n : sz + 1 ≠ nb := by have := b48.lt; omega
      have hqn : bq ≠ nb := by have := aq8.lt; omega
      have hoAD : ∀ g, AD.map (·.block) = some g → g ≠ nb := fun g hg => by have := oq8.ltn g hg; omega
      have hA9 : ∀ g, A9.map (·.block) = some g → g ≠ nb := fun g hg => by have := R8.ltn g hg; omega
      have hwZ : w.heap.size ≤ nb := by have := S8.g.size; omega
      have hszZ : nb < (w8.alloc (.cells #[.int .i64 (N.length : Int)] 3)).heap.size := by rw [hnb]; simp
      rw [← hnb]
      generalize w8.alloc (.cells #[.int .i64 (N.length : Int)] 3) = Z at *
      clear hnb b58 b48 R8 aq8 oq8 GB8 S8 g7 hbq
      have hRow : ∀ W' wz, Bl Z W' → KpB nb W' wz → wz.cell? ⟨bq, 0, none⟩ = some (.slice AD N.length cD) ∧ shK.Rd wz AD N := fun W' wz gW hK => by
        refine ⟨(hK.2 bq _ _ hqn (aqZ.bl gW)).cell 0, ?_⟩
        have o2 := oqZ.bl gW
        have o3 : OwP wz wr.heap.size AD cD N := by
          refine ⟨o2.1, ?_⟩
          rcases o2.2 with hn | ⟨g, cap, cur, h1, h2, h3, h4⟩
          · exact .inl hn
          · exact .inr ⟨g, cap, cur, h1, h2, hK.2 g cur _ (hoAD g (by injection h1 with h1; rw [h1]; rfl)) h3, h4⟩
        exact o3.rd
      have hwsz1 : w.heap.size ≤ sz + 1 := by omega
      have hwq5 : w.heap.size ≤ q5 := by omega
      have hZw : w.heap.size ≤ Z.heap.size := by omega
      refine range_laid (by omega) (gf := 37) (lb := #[.pointer (some ⟨bq, 0, none⟩)]) rfl (enters_of Try.func37 (by kernel_rfl) rfl)
        (downStopsG (KpB nb) (KpB.refl nb) (fun h k => h.trans k) (5 - 1) (by omega) bq AD cD N (by omega) Z hRow)
        (fun h k => h.trans k) (fun W l o o' _ hl ho _ => KpB.book nb W l o o' hl ho) (fun W o => KpB.gr ((Gr.refl W).alloc o)) (Below.refl _ _) (fun _ => rfl)
        (fun pre V' => At V' (sz + 1) #[.bool false] 4 ∧ At V' q5 #[.slice A9 N.length c9] 22 ∧ OwK V' w.heap.size A9 c9 N ∧ At V' nb #[.int .i64 ((N.length - pre.length : Nat) : Int)] 3 ∧ w.grownBy V' none ∧ Z.heap.size ≤ V'.heap.size ∧ pre = N.reverse.take pre.length)
        (fun cx pre V' => cx = .ret ∧ ¬ (pre <+: N.reverse))
        ((ownAtK _ _ _ _).and ((ownAtK _ _ _ _).and ((ownOwK _ _ _ _ _).and ((ownAtK _ _ _ _).and ((ownByK _ (by omega)).and ((ownSizeK _ _).and (ownFrom_pure _ _)))))))
        (fun cx => (ownFrom_pure _ _).and (ownFrom_pure _ _))
        ⟨b4Z, b5Z, RZ, n0, GBZ, Nat.le_refl _, by simp⟩
        (fun x => .cells (kC x) 26)
        (fun x b => { tmps := #[.slice AF LF.length cF, kV k, undef, .pointer (some ⟨sz, 0, none⟩), .pointer (some ⟨sz + 1, 0, none⟩), .pointer (some ⟨q5, 0, none⟩), .pointer (some ⟨pa, 0, none⟩), .int .i64 (N.length : Int), .func (.func 37) #[] #[.pointer (some ⟨bq, 0, none⟩)], .pointer (some ⟨nb, 0, none⟩), .pointer (some ⟨b, 0, none⟩), .slice AF LF.length cF, .slice AF LF.length cF, .int .i64 (LF.length : Int), .int .i64 (m : Int), .slice AF m cF, .slice A9 N.length c9, .pointer (some ⟨pa, 0, none⟩), .pointer (some ⟨pa, 0, none⟩), .bool false, .int .i64 (N.length : Int), .slice A9 N.length c9, .int .i64 (N.length : Int), .bool false, u24, u25, u26, u27, u28, u29, u30, u31, .pointer (some ⟨pa, 0, none⟩), .func (.func 37) #[] #[.pointer (some ⟨bq, 0, none⟩)], .func (.func 37) #[] #[.pointer (some ⟨bq, 0, none⟩)], .bool false, .pointer (some ⟨pa, 0, none⟩), kV k, .bool (decide (k ∈ N)), .slice A9 N.length c9, .int .i64 (N.length : Int), .func (.func 37) #[] #[.pointer (some ⟨bq, 0, none⟩)], kV x, undef, undef, undef, undef, undef, undef, undef, undef, undef, undef, undef, undef, undef, undef, undef], defers := [] }) ?assign ?body ?done ?stop
      case assign =>
        intro l x W' K' hK'
        dsimp only [kP]
        rw [zip1K]
        simp only [List.setIfInBounds_toArray, List.set_cons_succ, List.set_cons_zero]
        gi_wp2
        exact hK'
      case body =>
        rintro l pre x b W' ⟨i4, i5, iR, iN, hby, hszz, hpre⟩ hb hbl hlen2
        have ib : At W' b (kC x) 26 := hb
        obtain ⟨r, hr⟩ : ∃ r, N.length - pre.length = r + 1 := ⟨N.length - pre.length - 1, by omega⟩
        have hrN : r < N.length := by omega
        obtain ⟨y, hy⟩ := list_at hrN
        have hpy : pre ++ [y] = N.reverse.take (pre.length + 1) := by
          have := rev_take (L := N) (j := pre.length) (m := r) (p := y) (by omega) hy
          rw [← this, ← hpre]
        rw [hr] at iN
        obtain ⟨bb, off, hbA, hrow⟩ := iR.rd.opened (by omega)
        have hbbn : bb ≠ nb := by
          have h5 := hA9 bb
          rw [hbA] at h5
          exact h5 rfl
        have iN2 := iN.put 0 (.int .i64 (r : Int))
        have gS := grownBy_setCell' W' nb (.int .i64 (r : Int))
        have iN0 : W'.cell? ⟨nb, 0, none⟩ = some (.int .i64 ((r + 1 : Nat) : Int)) := iN.cell 0
        have iNf := iN.free 0
        have hw : IntKind.i64.wrap (((r + 1 : Nat) : Int) - 1) = (r : Int) := by rw [IntWalk.i64_in _ (by omega)]; omega
        have hbn : b ≠ nb := by omega
        have i4n := i4.grown gS (by simpa using h4n)
        have i5n := i5.grown gS (by simpa using h5n)
        have ibn := ib.grown gS (by simpa using hbn)
        have iRn := iR.by gS (by rw [hbA]; right; simpa using hbbn)
        have hrow2 : shK.Row (W'.setCell ⟨nb, 0, none⟩ (.int .i64 (r : Int))) bb off N := hrow.by gS (by simpa using hbbn)
        have hKp := KpB.set (b := nb) W' (.int .i64 (r : Int))
        have hby2 := by_rowK hby gS (by omega)
        have hsz2 := Nat.le_trans hszz gS.size
        have mixed : Try.prog.follows .mixedOrders = true := by kernel_rfl
        have hdone : x = y → pre ++ [x] = N.reverse.take (pre ++ [x]).length := fun e => by rw [e, List.length_append, List.length_singleton]; exact hpy
        have hstop : x ≠ y → ¬ (pre ++ [x] <+: N.reverse) := fun hne hpf => by
          have h1 := List.prefix_iff_eq_take.1 hpf
          rw [List.length_append, List.length_singleton, ← hpy] at h1
          exact hne (by simpa using List.append_cancel_left h1)
        have hlen3 : N.length - (pre ++ [x]).length = r := by simp; omega
        subst hbA
        clear hpy hpre hrow iR gS
        have hK0 := (KeepsOthers.setCell W' ⟨nb, 0, none⟩ (.int .i64 (r : Int)))
        have n1 : (W'.setCell ⟨nb, 0, none⟩ (.int .i64 (r : Int))).cell? ⟨nb, 0, none⟩ = some (.int .i64 (r : Int)) := by
          have := iN2.cell 0
          simpa using this
        have hc0 : ((r : Int) < 0) = False := by simp
        have y0 := (k_at hrow2 (show N[r]? = some y from by assumption)).1
        have y1 := (k_at hrow2 (show N[r]? = some y from by assumption)).2
        gi_wp2
        rename_i K hK
        obtain ⟨U, hU⟩ : ∃ U, U = W'.setCell ⟨nb, 0, none⟩ (.int .i64 (r : Int)) := ⟨_, rfl⟩
        have hU' : W'.setCell ⟨nb, 0, none⟩ (.int .i64 (r : Nat)) = U := hU.symm
        rw [← hU] at i4n i5n ibn iRn hrow2 hKp hby2 hsz2 n1 iN2 hK0 y0 y1
        rw [hU']
        have x0 : U.cell? ⟨b, 0, none⟩ = some (.int .i64 x.1) := ibn.cell 0
        have x1 : U.cell? ⟨b, 1, none⟩ = some (.int .i64 x.2) := ibn.cell 1
        have l0 : U.cell? ⟨q5, 0, none⟩ = some (.slice (some ⟨bb, off, none⟩) N.length c9) := i5n.cell 0
        have w0' : U.cell? ⟨sz + 1, 0, none⟩ = some (.bool false) := i4n.cell 0
        have wf := i4n.free 0
        clear hU hU' iN0 iNf iN i4 i5 ib hby hszz hb
        refine wpIn_mono (Q := Exit.then K (fun _ _ _ => False)) ?_ then_falseK
        refine wpIn_region_round_quiet mixed (by kernel_rfl) (by kernel_rfl) (fun ⟨_, _, h⟩ => h) ?_
        repeat (first | go_big_quiet_step (fail) | quiet_step (fail))
        refine wpQuiet_nil ?_
        rintro w' ⟨dq, rfl⟩
        refine hK _ _ ?_
        have g' := (Gr.refl U).drewN dq
        clear hK
        by_cases hxy : x = y
        · have hpn := hdone hxy
          clear hstop hdone
          subst hxy
          gi_wp2
          refine ⟨(hK0.trans g'.keepsK).from _, hKp.trans (KpB.gr g'), i4n.gr g', i5n.gr g', iRn.bl g'.bl, ?_, By.trans hby2 (g'.bl.byr none), Nat.le_trans hsz2 g'.size, hpn⟩
          rw [hlen3]
          have := iN2.gr g'
          simpa using this
        · have hd := ky_ne hxy
          have hs := hstop hxy
          have v0 : (U.drewN dq).cell? ⟨sz + 1, 0, none⟩ = some (.bool false) := w0'
          have vf : (U.drewN dq).frozen? ⟨sz + 1, 0, none⟩ = false := wf
          clear hstop hdone
          gi_wp2
          · exact ⟨((hK0.trans g'.keepsK).trans (KeepsOthers.setCell _ _ _)).from _, rfl, hs⟩
          · rename_i hh
            rw [hd] at hh
            cases hh
      case done =>
        rintro D xs W' hD rfl ⟨i4, i5, iR, iN, hby, hszz, _⟩ hK'
        rw [List.length_reverse, Nat.sub_self] at iN
        have iN0 : W'.cell? ⟨nb, 0, none⟩ = some (.int .i64 0) := iN.cell 0
        have cL := Lib.hid (livesK W')
        have F4 := Lib.hid (fun V (g : Bl W' V) => (show V.cell? ⟨sz + 1, 0, none⟩ = some (.bool false) ∧ V.frozen? ⟨sz + 1, 0, none⟩ = false from ⟨(i4.bl g).cell 0, (i4.bl g).free 0⟩))
        gi_wp2_with (refine ⟨trivial, ?_⟩; gi_at_call 19; refine (callsIn_wide.2 cL.out).mono ?_; rintro e w9 ⟨rfl, g9⟩; obtain ⟨f1, f2⟩ := F4.out w9 g9)
        have gS := grownBy_setCell' w9 (sz + 1) (.bool true)
        have iX := (i4.bl g9).put 0 (.bool true)
        have hKX : (w9.setCell ⟨sz + 1, 0, none⟩ (.bool true)).heap[D]? = some (.deferred (some [])) := (Below.heap_setCell _ _ _ _ (by have := b4Z.lt; simp; omega)).trans ((Below.block g9 _ (Array.getElem?_eq_some_iff.1 hK').1).trans hK')
        have hbX := by_rowK (By.trans hby (g9.byr none)) gS (by omega)
        generalize w9.setCell ⟨sz + 1, 0, none⟩ (.bool true) = X at iX hbX hKX ⊢
        refine ⟨by simp, .inl ⟨_, _, rfl, run_takeDeferred hKX, ?_⟩⟩
        have hgp := grownBy_putObj' X D (.deferred none)
        have hX1 : At X (sz + 1) #[.bool true] 4 := by simpa using iX
        have c5 : (X.putObj D (.deferred none)).cell? ⟨sz + 1, 0, none⟩ = some (.bool true) := (hX1.grown hgp (by have := b4Z.lt; simp; omega)).cell 0
        refine ⟨.bool true, ?_, rfl, By.none (by_rowK hbX hgp (by omega))⟩
        simp [results, Try.results5, go_sem, c5]
      case stop =>
        rintro D cx pre W' hD hp ⟨rfl, hnp⟩ hK'
        exact absurd hp hnp

end Go.Proofs.Ytgjoipndhlngnaa
