/-
  What is proved: the walk of the statement IdsKinds. No conditions.
-/
import Derived.Test.YtdbkklhnoflbpaaWj
namespace Go.Proofs.Ytdbkklhnoflbpaa
open Go.ChangeShapes Go.WideShapes Go.ChangeAt Go.RowKit Go.Joins Go.Sort Go.Deep Go.Maps

theorem I64.wrap (n : Int) : I64 (wrap64 n) := by
  rw [← IntWalk.i64_left]
  exact I64.of_wf (by rw [IntWalk.i64_left]; exact wrap64_wf n)
theorem I64.max {a b : Int} (ha : I64 a) (hb : I64 b) : I64 (max a b) := by unfold I64 at *; omega
def sumK (L : List Ik) : Nat → Nat
  | 0 => 0
  | c + 1 => sumK L c + (ofL L ((c : Int) + 1)).length
theorem sumK_cons (p : Ik) (L : List Ik) : ∀ c : Nat, sumK (p :: L) c = sumK L c + if 1 ≤ p.2 ∧ p.2 ≤ c then 1 else 0
  | 0 => by simp [sumK]; omega
  | c + 1 => by
    have ih := sumK_cons p L c
    show sumK (p :: L) c + (ofL (p :: L) ((c : Int) + 1)).length = sumK L c + (ofL L ((c : Int) + 1)).length + _
    rw [ih]
    have hof : (ofL (p :: L) ((c : Int) + 1)).length = (ofL L ((c : Int) + 1)).length + if p.2 = (c : Int) + 1 then 1 else 0 := by
      unfold ofL
      by_cases h : p.2 = (c : Int) + 1
      · simp [h]
      · simp [h]
    rw [hof]
    by_cases h1 : p.2 = (c : Int) + 1
    · rw [if_pos h1, if_neg (by omega), if_pos (by omega)]; omega
    · rw [if_neg h1]
      by_cases h2 : 1 ≤ p.2 ∧ p.2 ≤ (c : Int)
      · rw [if_pos h2, if_pos (by omega)]; omega
      · rw [if_neg h2, if_neg (by omega)]; omega
theorem sumK_nil : ∀ c : Nat, sumK [] c = 0
  | 0 => rfl
  | c + 1 => by show sumK [] c + 0 = 0; rw [sumK_nil c]
theorem sumK_all : ∀ L : List Ik, (∀ p ∈ L, 1 ≤ p.2 ∧ p.2 ≤ 8) → sumK L 8 = L.length
  | [], _ => sumK_nil 8
  | p :: L, h => by
    rw [sumK_cons, sumK_all L (fun q hq => h q (by simp [hq])), if_pos (by have := h p (by simp); exact ⟨this.1, by simpa using this.2⟩)]; rfl
theorem sumK_le (L : List Ik) (h : L.length ≤ 32) : ∀ c : Nat, c ≤ 8 → sumK L c ≤ 32 * c
  | 0, _ => Nat.le_refl _
  | c + 1, hc => by
    show sumK L c + _ ≤ _
    have h1 := sumK_le L h c (by omega)
    have h2 := ofL_len L ((c : Int) + 1)
    omega
/-- What is told of an id of a kind. -/
theorem of_facts {m : Int} {L : List Ik} (hok : OkT m L) {k x : Int} (h : x ∈ ofL L k) : kindL L x = k ∧ findE L x k = 0 ∧ (∀ q, q ≠ k → findE L x q = 9) ∧ 1 ≤ x ∧ x ≤ 4294967295 := by
  rw [mem_ofL] at h
  have h1 := kindL_yes hok.asc h
  have h2 : hasL L x = true := (hasL_iff L x).2 ⟨_, h, rfl⟩
  have h3 := hok.ids _ h
  refine ⟨h1, ?_, fun q hq => ?_, h3.1, h3.2.1⟩
  · unfold findE; rw [h2, if_pos rfl, if_pos h1]
  · unfold findE; rw [h2, if_pos rfl, if_neg (by rw [h1]; exact fun e => hq e.symm)]

section
attribute [local go_sem ↓] run_min2 run_max2
set_option maxRecDepth 100000 in
set_option maxHeartbeats 2000000 in
theorem kinds_core (A : Option Addr) (c : Nat) (D : List De) (w : World) (hD : shD.Rd w A D) : Calls Try.prog 5 #[.slice A D.length c] w fun e w' => e = .returned (.bool true) ∧ Bl w w' := by
  have cn := fun V => idNew1 32 V
  rw [show mostN 32 = 32 from rfl] at cn
  have cl := fun V => idlives1 V
  go_enter Try.func5, Try.ntmps5
  go_wp2_with fail
  refine (cn _).mono ?_
  rintro e w1 ⟨pa, pb, rfl, ha, hb, t1, g1⟩
  have hb' : w.heap.size ≤ pb := hb
  clear cn ha hb
  have nb := Lib.hid (fun k (hk : some pb = some k) => (show w.heap.size ≤ k by cases hk; exact hb'))
  clear hb'
  go_wp2
  go_loopw [4, 5, 6] (fun iv _ _ wr => ∃ (j : Nat) (L : List Ik), j ≤ D.length ∧ iv = .int .i64 (j : Int) ∧ Tb wr pa pb 32 L ∧ Bl w wr) (fun iv _ _ _ => D.length - (intOf iv).toNat)
  case atStart => exact ⟨0, [], by omega, rfl, t1, g1⟩
  case round =>
    clear t1 g1
    obtain ⟨j, L, hj, rfl, t, g⟩ := hrel
    by_cases hlt : j < D.length ∧ j < 20
    · obtain ⟨hlt, hlt2⟩ := hlt
      obtain ⟨d, hd⟩ := list_at hlt
      obtain ⟨b, off, rfl, hrow⟩ := hD.opened (by omega)
      obtain ⟨e1, e2, e3⟩ := de_at (hrow.bl g) hd
      have ca := fun x k (hx : I64 x) (hk : I64 k) => idAdd1 t x k hx hk
      replace ca := Lib.hid ca
      replace hd := Lib.hid hd
      go_wp2_with fail
      refine (ca.out _ _ (by first | exact I64.max (I64.wrap _) (I64.wrap _) | sorry) (by first | exact I64.max (I64.wrap _) (I64.wrap _) | sorry)).mono ?_
      rintro e w2 ⟨rfl, t2, k2⟩
      go_wp2
      go_roundw
      case rel => exact ⟨j + 1, _, by omega, by go_num, t2, g.grown k2 nb.out⟩
      case measure => simp [intOf]; omega
    · have hor : j = D.length ∨ (j < D.length ∧ 20 ≤ j) := by omega
      clear hlt
      have hbd : (decide ((j : Int) < (D.length : Int)) = false ∧ ¬ (j : Int) < (D.length : Int)) ∨ (decide ((j : Int) < (D.length : Int)) = true ∧ decide ((j : Int) < 20) = false ∧ j < D.length) := by
        rcases hor with h | h
        · exact .inl ⟨by simp; omega, by omega⟩
        · exact .inr ⟨by simp; omega, by simp; omega, h.1⟩
      clear hor
      replace hj := Lib.hid hj
      rcases hbd with ⟨h, h'⟩ | ⟨h, h', h''⟩
      · go_wp2
        clear h h'
        obtain ⟨V0, hV0⟩ : ∃ V, V = wr := ⟨_, rfl⟩
        subst hV0
        have hall := sumK_all L (fun p hp => by have := t.ok.ids p hp; exact ⟨this.2.2.1, this.2.2.2⟩)
        have hsl := fun c hc => sumK_le L t.ok.len c hc
        replace hall := Lib.hid hall
        replace hsl := Lib.hid hsl
        go_loopw [7, 8, 9, 10] (fun nv kv _ _ wr => ∃ k : Nat, k ≤ 8 ∧ nv = .int .i64 ((sumK L k : Nat) : Int) ∧ kv = .int .i64 ((k : Int) + 1) ∧ Tb wr pa pb 32 L ∧ Bl w wr) (fun _ kv _ _ _ => 9 - (intOf kv).toNat)
        case atStart => exact ⟨0, by omega, rfl, rfl, t, g⟩
        case round =>
          clear t g
          obtain ⟨k, hk, rfl, rfl, t, g⟩ := hrel
          have hsk := hsl.out k hk
          by_cases hk8 : k < 8
          · have co := idOf1 t ((k : Int) + 1)
            have hfs := fun x (hx : x ∈ ofL L ((k : Int) + 1)) => of_facts t.ok hx
            have hol := ofL_len L ((k : Int) + 1)
            have hlen := t.ok.len
            have hsu : sumK L (k + 1) = sumK L k + (ofL L ((k : Int) + 1)).length := rfl
            have hasc := ofL_asc t.ok.asc ((k : Int) + 1)
            have hsk1 := hsl.out (k + 1) (by omega)
            have q8 : (k : Int) + 1 ≤ 8 := by omega
            generalize ofL L ((k : Int) + 1) = E at *
            obtain ⟨S, hS⟩ : ∃ S, S = sumK L k := ⟨_, rfl⟩
            rw [← hS] at hsu hsk ⊢
            rw [hsu] at hsk1
            replace hsu := Lib.hid hsu
            replace hS := Lib.hid hS
            replace co := Lib.hid co
            replace hfs := Lib.hid hfs
            replace hasc := Lib.hid hasc
            clear hsl
            go_wp2_with fail
            refine co.out.mono ?_
            rintro e w2 ⟨A2, c2, rfl, own, k2⟩
            have hE := own.rd
            have t2 := t.bl k2
            have g2 := g.trans k2
            clear co own
            go_wp2
            go_loopw [10] (fun iv wr => ∃ q : Nat, q ≤ E.length ∧ iv = .int .i64 (q : Int) ∧ Bl w2 wr) (fun iv _ => E.length - (intOf iv).toNat)
            case atStart => exact ⟨0, by omega, rfl, Bl.refl _⟩
            case round =>
              obtain ⟨q, hq, rfl, gq⟩ := hrel
              by_cases hqE : q < E.length
              · obtain ⟨x, hx⟩ := list_at hqE
                obtain ⟨b, off, rfl, hrow⟩ := hE.opened (by omega)
                have e1 := fun dq os => int_at (hrow.bl ((gq.drewN dq).grow os)) hx
                obtain ⟨f1, f2, f3, f4, f5⟩ := hfs.out x (List.mem_of_getElem? hx)
                have ix : I64 x := by unfold I64; omega
                have cK := fun dq os => Calls.grown (n := dq) (os := os) (idKind1 ((t2.bl gq).bl ((Bl.refl wr).drewN dq |>.grow os)) x ix)
                have cF := fun dq os => Calls.grown (n := dq) (os := os) (idFind1 ((t2.bl gq).bl ((Bl.refl wr).drewN dq |>.grow os)) x ((k : Int) + 1) ix)
                have cG := fun dq os => Calls.grown (n := dq) (os := os) (idFind1 ((t2.bl gq).bl ((Bl.refl wr).drewN dq |>.grow os)) x (((k : Int) + 1) % 8 + 1) ix)
                rw [f1] at cK
                rw [f2] at cF
                rw [f3 _ (by omega)] at cG
                clear f1 f2 f3 f4 f5
                have qk : (k : Int) + 1 ≤ 8 := by omega
                rcases Nat.eq_zero_or_pos q with h0 | h0
                · have z1 : decide (0 < (q : Int)) = false := decide_eq_false (by omega)
                  have z2 : ¬ 0 < q := by omega
                  have z3 : ¬ 0 < (q : Int) := by omega
                  replace h0 := Lib.hid h0
                  replace hx := Lib.hid hx
                  go_wp2
                  refine wp_region_quiet_grown (by kernel_rfl) (by kernel_rfl) ?_
                  repeat (first | go_big_quiet_step (first | with_reducible exact cK _ _ | with_reducible exact cF _ _ | with_reducible exact cG _ _) | quiet_step (first | with_reducible exact cK _ _ | with_reducible exact cF _ _ | with_reducible exact cG _ _))
                  refine wpQuiet_nil ?_
                  intro w3 g3
                  replace g3 : Gr _ w3 := g3
                  go_wp2
                  go_roundw
                  case rel => exact ⟨q + 1, by omega, by go_num, gq.gr g3⟩
                  case measure => simp [intOf]; omega
                · obtain ⟨p, rfl⟩ : ∃ p, q = p + 1 := ⟨q - 1, by omega⟩
                  obtain ⟨y, hy⟩ := list_at (l := E) (k := p) (by omega)
                  have e2 := fun dq os => int_at (hrow.bl ((gq.drewN dq).grow os)) hy
                  have hyx : y < x := by
                    obtain ⟨u1, rfl⟩ := List.getElem?_eq_some_iff.1 hx
                    obtain ⟨u2, rfl⟩ := List.getElem?_eq_some_iff.1 hy
                    exact List.pairwise_iff_getElem.1 hasc.out _ _ u2 u1 (by omega)
                  have dyx : decide (x ≤ y) = false := by simp; omega
                  have w1 : IntKind.i64.wrap ((p : Int) + 1 - 1) = (p : Int) := by rw [IntWalk.i64_in _ (by omega)]; omega
                  have hpE : p < E.length := by omega
                  replace hx := Lib.hid hx
                  replace hy := Lib.hid hy
                  replace hyx := Lib.hid hyx
                  go_wp2
                  refine wp_region_quiet_grown (by kernel_rfl) (by kernel_rfl) ?_
                  repeat (first | go_big_quiet_step (first | with_reducible exact cK _ _ | with_reducible exact cF _ _ | with_reducible exact cG _ _) | quiet_step (first | with_reducible exact cK _ _ | with_reducible exact cF _ _ | with_reducible exact cG _ _))
                  refine wpQuiet_nil ?_
                  intro w3 g3
                  replace g3 : Gr _ w3 := g3
                  go_wp2
                  go_roundw
                  case rel => exact ⟨p + 2, by omega, by go_num, gq.gr g3⟩
                  case measure => simp [intOf]; omega
              · obtain rfl : q = E.length := by omega
                have w3 : IntKind.i64.wrap ((S : Int) + (E.length : Int)) = (S : Int) + (E.length : Int) := IntWalk.i64_in _ (by omega)
                replace hq := Lib.hid hq
                go_wp2
                go_roundw
                case rel => exact ⟨k + 1, by omega, by rw [hsu.out]; simp, by go_num, t2.bl gq, g2.trans gq⟩
                case measure => simp [intOf]; omega
          · obtain rfl : k = 8 := by omega
            rw [hall.out]
            have cle := idLen1 t
            go_wp2_with fail
            refine cle.mono ?_
            rintro e w2 ⟨rfl, k2⟩
            go_wp2_with fail
            refine (cl _).mono ?_
            rintro e w3 ⟨rfl, k3⟩
            go_wp2
            go_ret
            exact ⟨rfl, (g.gr k2).trans k3⟩
      · go_wp2
        clear h h'
        obtain ⟨V0, hV0⟩ : ∃ V, V = wr := ⟨_, rfl⟩
        subst hV0
        have hall := sumK_all L (fun p hp => by have := t.ok.ids p hp; exact ⟨this.2.2.1, this.2.2.2⟩)
        have hsl := fun c hc => sumK_le L t.ok.len c hc
        replace hall := Lib.hid hall
        replace hsl := Lib.hid hsl
        go_loopw [7, 8, 9, 10] (fun nv kv _ _ wr => ∃ k : Nat, k ≤ 8 ∧ nv = .int .i64 ((sumK L k : Nat) : Int) ∧ kv = .int .i64 ((k : Int) + 1) ∧ Tb wr pa pb 32 L ∧ Bl w wr) (fun _ kv _ _ _ => 9 - (intOf kv).toNat)
        case atStart => exact ⟨0, by omega, rfl, rfl, t, g⟩
        case round =>
          clear t g
          obtain ⟨k, hk, rfl, rfl, t, g⟩ := hrel
          have hsk := hsl.out k hk
          by_cases hk8 : k < 8
          · have co := idOf1 t ((k : Int) + 1)
            have hfs := fun x (hx : x ∈ ofL L ((k : Int) + 1)) => of_facts t.ok hx
            have hol := ofL_len L ((k : Int) + 1)
            have hlen := t.ok.len
            have hsu : sumK L (k + 1) = sumK L k + (ofL L ((k : Int) + 1)).length := rfl
            have hasc := ofL_asc t.ok.asc ((k : Int) + 1)
            have hsk1 := hsl.out (k + 1) (by omega)
            have q8 : (k : Int) + 1 ≤ 8 := by omega
            generalize ofL L ((k : Int) + 1) = E at *
            obtain ⟨S, hS⟩ : ∃ S, S = sumK L k := ⟨_, rfl⟩
            rw [← hS] at hsu hsk ⊢
            rw [hsu] at hsk1
            replace hsu := Lib.hid hsu
            replace hS := Lib.hid hS
            replace co := Lib.hid co
            replace hfs := Lib.hid hfs
            replace hasc := Lib.hid hasc
            clear hsl
            go_wp2_with fail
            refine co.out.mono ?_
            rintro e w2 ⟨A2, c2, rfl, own, k2⟩
            have hE := own.rd
            have t2 := t.bl k2
            have g2 := g.trans k2
            clear co own
            go_wp2
            go_loopw [10] (fun iv wr => ∃ q : Nat, q ≤ E.length ∧ iv = .int .i64 (q : Int) ∧ Bl w2 wr) (fun iv _ => E.length - (intOf iv).toNat)
            case atStart => exact ⟨0, by omega, rfl, Bl.refl _⟩
            case round =>
              obtain ⟨q, hq, rfl, gq⟩ := hrel
              by_cases hqE : q < E.length
              · obtain ⟨x, hx⟩ := list_at hqE
                obtain ⟨b, off, rfl, hrow⟩ := hE.opened (by omega)
                have e1 := fun dq os => int_at (hrow.bl ((gq.drewN dq).grow os)) hx
                obtain ⟨f1, f2, f3, f4, f5⟩ := hfs.out x (List.mem_of_getElem? hx)
                have ix : I64 x := by unfold I64; omega
                have cK := fun dq os => Calls.grown (n := dq) (os := os) (idKind1 ((t2.bl gq).bl ((Bl.refl wr).drewN dq |>.grow os)) x ix)
                have cF := fun dq os => Calls.grown (n := dq) (os := os) (idFind1 ((t2.bl gq).bl ((Bl.refl wr).drewN dq |>.grow os)) x ((k : Int) + 1) ix)
                have cG := fun dq os => Calls.grown (n := dq) (os := os) (idFind1 ((t2.bl gq).bl ((Bl.refl wr).drewN dq |>.grow os)) x (((k : Int) + 1) % 8 + 1) ix)
                rw [f1] at cK
                rw [f2] at cF
                rw [f3 _ (by omega)] at cG
                clear f1 f2 f3 f4 f5
                have qk : (k : Int) + 1 ≤ 8 := by omega
                rcases Nat.eq_zero_or_pos q with h0 | h0
                · have z1 : decide (0 < (q : Int)) = false := decide_eq_false (by omega)
                  have z2 : ¬ 0 < q := by omega
                  have z3 : ¬ 0 < (q : Int) := by omega
                  replace h0 := Lib.hid h0
                  replace hx := Lib.hid hx
                  go_wp2
                  refine wp_region_quiet_grown (by kernel_rfl) (by kernel_rfl) ?_
                  repeat (first | go_big_quiet_step (first | with_reducible exact cK _ _ | with_reducible exact cF _ _ | with_reducible exact cG _ _) | quiet_step (first | with_reducible exact cK _ _ | with_reducible exact cF _ _ | with_reducible exact cG _ _))
                  refine wpQuiet_nil ?_
                  intro w3 g3
                  replace g3 : Gr _ w3 := g3
                  go_wp2
                  go_roundw
                  case rel => exact ⟨q + 1, by omega, by go_num, gq.gr g3⟩
                  case measure => simp [intOf]; omega
                · obtain ⟨p, rfl⟩ : ∃ p, q = p + 1 := ⟨q - 1, by omega⟩
                  obtain ⟨y, hy⟩ := list_at (l := E) (k := p) (by omega)
                  have e2 := fun dq os => int_at (hrow.bl ((gq.drewN dq).grow os)) hy
                  have hyx : y < x := by
                    obtain ⟨u1, rfl⟩ := List.getElem?_eq_some_iff.1 hx
                    obtain ⟨u2, rfl⟩ := List.getElem?_eq_some_iff.1 hy
                    exact List.pairwise_iff_getElem.1 hasc.out _ _ u2 u1 (by omega)
                  have dyx : decide (x ≤ y) = false := by simp; omega
                  have w1 : IntKind.i64.wrap ((p : Int) + 1 - 1) = (p : Int) := by rw [IntWalk.i64_in _ (by omega)]; omega
                  have hpE : p < E.length := by omega
                  replace hx := Lib.hid hx
                  replace hy := Lib.hid hy
                  replace hyx := Lib.hid hyx
                  go_wp2
                  refine wp_region_quiet_grown (by kernel_rfl) (by kernel_rfl) ?_
                  repeat (first | go_big_quiet_step (first | with_reducible exact cK _ _ | with_reducible exact cF _ _ | with_reducible exact cG _ _) | quiet_step (first | with_reducible exact cK _ _ | with_reducible exact cF _ _ | with_reducible exact cG _ _))
                  refine wpQuiet_nil ?_
                  intro w3 g3
                  replace g3 : Gr _ w3 := g3
                  go_wp2
                  go_roundw
                  case rel => exact ⟨p + 2, by omega, by go_num, gq.gr g3⟩
                  case measure => simp [intOf]; omega
              · obtain rfl : q = E.length := by omega
                have w3 : IntKind.i64.wrap ((S : Int) + (E.length : Int)) = (S : Int) + (E.length : Int) := IntWalk.i64_in _ (by omega)
                replace hq := Lib.hid hq
                go_wp2
                go_roundw
                case rel => exact ⟨k + 1, by omega, by rw [hsu.out]; simp, by go_num, t2.bl gq, g2.trans gq⟩
                case measure => simp [intOf]; omega
          · obtain rfl : k = 8 := by omega
            rw [hall.out]
            have cle := idLen1 t
            go_wp2_with fail
            refine cle.mono ?_
            rintro e w2 ⟨rfl, k2⟩
            go_wp2_with fail
            refine (cl _).mono ?_
            rintro e w3 ⟨rfl, k3⟩
            go_wp2
            go_ret
            exact ⟨rfl, (g.gr k2).trans k3⟩
end

end Go.Proofs.Ytdbkklhnoflbpaa
