/-
  What is proved: the statement TitleLong: a title has at most 64 signs; of more the first 64 stay. No conditions.
-/
import Derived.Test.YtcfckhelpnielaaVz
import Derived.ChangeMaps5
namespace Go.Proofs.Ytcfckhelpnielaa
open Go.ChangeShapes Go.WideShapes Go.ChangeAt Go.RowKit Go.Joins Go.Sort
open Go.ChangeMaps (open_string shut_string)
attribute [local go_sem ↓] run_min2 run_max2

theorem rep_encs (c : Int) : ∀ n : Nat, encs (List.replicate n c) = (List.replicate n (Lib.encodeRune c)).flatten
  | 0 => rfl
  | n + 1 => by rw [List.replicate_succ, encs_cons, rep_encs c n]; rfl
theorem rep_snoc (c : Int) (n : Nat) : encs (List.replicate (n + 1) c) = encs (List.replicate n c) ++ Lib.encodeRune c := by
  rw [List.replicate_succ', encs_app]; simp [encs]
set_option maxRecDepth 100000 in
set_option maxHeartbeats 4000000 in
theorem long_core (n : Int) (hn : I64 n) (wide : Bool) (w : World) : Calls Try.prog 9 #[.int .i64 n, .bool wide] w (Bt w (.bool true)) := by
  have ca := fun w => around1 n 101 w hn (by omega)
  obtain ⟨hk0, hk1⟩ := around_bd n 101 (by omega)
  generalize around n 101 = k' at *
  obtain ⟨k, rfl⟩ : ∃ k : Nat, k' = k := ⟨k'.toNat, by omega⟩
  have hk : k ≤ 100 := by omega
  have G := Bl.refl w
  obtain ⟨o, ho⟩ : ∃ o : Int, o = if wide = true then 26085 else 97 := ⟨_, rfl⟩
  have vo : Vr o := by rw [ho]; split <;> (unfold Vr; omega)
  have eo : oddB o = false := by rw [ho]; cases wide <;> decide
  have ho1 : bs (Lib.encodeRune o) = if wide = true then ⟨#[230, 151, 165]⟩ else ⟨#[97]⟩ := by rw [ho]; cases wide <;> rfl
  have hon := enc_pos o
  have hl : ∀ m : Nat, (encs (List.replicate m o)).length ≤ 4 * m := fun m => by have := encs_len (List.replicate m o); rwa [List.length_replicate] at this
  have vr : ∀ m : Nat, ∀ c ∈ List.replicate m o, Vr c := fun m c hc => by rw [List.eq_of_mem_replicate hc]; exact vo
  have er : ∀ m : Nat, ∀ c ∈ List.replicate m o, oddB c = false := fun m c hc => by rw [List.eq_of_mem_replicate hc]; exact eo
  have c1 := fun w => count1 (bs (encs (List.replicate k o))) (by rw [bs_size]; have := hl k; omega) w
  have c2 := fun w => tmay1 (bs (encs (List.replicate k o))) (by rw [bs_size]; have := hl k; omega) w
  have c3 := fun w => tclean1 (bs (encs (List.replicate k o))) (by rw [bs_size]; have := hl k; omega) w
  rw [bs_list, sgs_encs0 _ (vr k)] at c1 c2 c3
  rw [List.length_map, List.length_replicate] at c1
  have hm : mayX ((List.replicate k o).map good) = decide ((k : Int) ≤ 64) := by
    by_cases h : k ≤ 64
    · rw [mayX_good (by rw [List.length_replicate]; exact h) (er k), decide_eq_true (by omega)]
    · rw [mayX_long (by rw [List.length_map, List.length_replicate]; omega), decide_eq_false (by omega)]
  have hc : clX ((List.replicate k o).map good) = encs (List.replicate (min k 64) o) := by
    unfold clX clN
    rw [← List.map_take, List.map_map, List.take_replicate, Nat.min_comm]
    have : ∀ c ∈ List.replicate (min k 64) o, (clR ∘ good) c = c := fun c hc => by simp [clR, good, er _ c hc]
    rw [List.map_congr_left this, List.map_id']
  rw [hm] at c2
  rw [hc] at c3
  have hsn : ∀ m : Nat, bs (encs (List.replicate m o)) ++ bs (Lib.encodeRune o) = bs (encs (List.replicate (m + 1) o)) := fun m => by rw [bs_app, rep_snoc]
  have hsz : ∀ m : Nat, m ≤ 100 → (bs (encs (List.replicate m o))).size ≤ 400 := fun m h => by rw [bs_size]; have := hl m; omega
  have h0 : bs (encs (List.replicate 0 o)) = ⟨#[]⟩ := rfl
  have hos : (bs (Lib.encodeRune o)).size ≤ 4 := by rw [bs_size]; exact hon.2
  clear hm hc vr er hl vo eo hon ho
  obtain ⟨f, hf⟩ : ∃ f : Nat → ByteArray, f = fun m => bs (encs (List.replicate m o)) := ⟨_, rfl⟩
  have F : ∀ m, f m = bs (encs (List.replicate m o)) := fun m => congrFun hf m
  clear hf
  simp only [← F] at c1 c2 c3 hsn hsz h0
  clear F
  generalize bs (Lib.encodeRune o) = O at *
  replace hsn := Lib.hid hsn
  replace hsz := Lib.hid hsz
  replace h0 := Lib.hid h0
  cases wide
  case false =>
    have hO : O = ⟨#[97]⟩ := by rw [ho1]; rfl
    clear ho1
    subst hO
    go_enter Try.func9, Try.ntmps9
    go_wp2_with fail
    refine (ca _).mono ?_
    rintro e w1 ⟨rfl, rfl⟩
    go_wp2
    go_loop [6, 7, 8] (fun a b i => ∃ m : Nat, m ≤ k ∧ a = .string (f m) ∧ b = .string (f (min m 64)) ∧ i = .int .i64 m) (fun _ _ i => k - (intOf i).toNat)
    case atStart => exact ⟨0, Nat.zero_le _, by rw [h0.out], by rw [Nat.zero_min, h0.out], rfl⟩
    case round =>
      obtain ⟨m, hmk, rfl, rfl, rfl⟩ := hrel
      by_cases hlt : m < k
      · have e1 := Lib.hid (hsn.out m)
        have z1 := hsz.out m (by omega)
        by_cases h64 : m < 64
        · have hmn : min m 64 = m := by omega
          have hmn2 : min (m + 1) 64 = m + 1 := by omega
          rw [hmn]
          replace hmn2 := Lib.hid hmn2
          clear hmn
          go_wp2
          go_round
          case rel => exact ⟨m + 1, by omega, by rw [e1.out], by rw [e1.out, hmn2.out], by simp⟩
          case measure => simp [intOf]; omega
        · have hmn : min m 64 = 64 := by omega
          have hmn2 : min (m + 1) 64 = 64 := by omega
          rw [hmn]
          replace hmn2 := Lib.hid hmn2
          clear hmn
          have q64 : decide ((m : Int) < 64) = false := by simp; omega
          go_wp2
          go_round
          case rel => exact ⟨m + 1, by omega, by rw [e1.out], by rw [hmn2.out], by simp⟩
          case measure => simp [intOf]; omega
      · obtain rfl : m = k := by omega
        go_wp2_with fail
        refine (c1 _).mono ?_
        rintro e w2 ⟨rfl, g⟩
        replace G := Bl.trans G g
        clear g
        go_wp2_with fail
        refine (c2 _).mono ?_
        rintro e w3 ⟨rfl, g⟩
        replace G := Bl.trans G g
        clear g
        go_wp2_with fail
        refine (c3 _).mono ?_
        rintro e w4 ⟨rfl, g⟩
        replace G := Bl.trans G g
        clear g
        go_wp2_with fail
        refine (tlives1 _).mono ?_
        rintro e w5 ⟨rfl, g⟩
        replace G := Bl.trans G g
        clear g
        go_wp2
        go_ret
        exact ⟨rfl, G⟩
  case true =>
    have hO : O = ⟨#[230, 151, 165]⟩ := by rw [ho1]; rfl
    clear ho1
    subst hO
    go_enter Try.func9, Try.ntmps9
    go_wp2_with fail
    refine (ca _).mono ?_
    rintro e w1 ⟨rfl, rfl⟩
    go_wp2
    go_loop [6, 7, 8] (fun a b i => ∃ m : Nat, m ≤ k ∧ a = .string (f m) ∧ b = .string (f (min m 64)) ∧ i = .int .i64 m) (fun _ _ i => k - (intOf i).toNat)
    case atStart => exact ⟨0, Nat.zero_le _, by rw [h0.out], by rw [Nat.zero_min, h0.out], rfl⟩
    case round =>
      obtain ⟨m, hmk, rfl, rfl, rfl⟩ := hrel
      by_cases hlt : m < k
      · have e1 := Lib.hid (hsn.out m)
        have z1 := hsz.out m (by omega)
        by_cases h64 : m < 64
        · have hmn : min m 64 = m := by omega
          have hmn2 : min (m + 1) 64 = m + 1 := by omega
          rw [hmn]
          replace hmn2 := Lib.hid hmn2
          clear hmn
          go_wp2
          go_round
          case rel => exact ⟨m + 1, by omega, by rw [e1.out], by rw [e1.out, hmn2.out], by simp⟩
          case measure => simp [intOf]; omega
        · have hmn : min m 64 = 64 := by omega
          have hmn2 : min (m + 1) 64 = 64 := by omega
          rw [hmn]
          replace hmn2 := Lib.hid hmn2
          clear hmn
          have q64 : decide ((m : Int) < 64) = false := by simp; omega
          go_wp2
          go_round
          case rel => exact ⟨m + 1, by omega, by rw [e1.out], by rw [hmn2.out], by simp⟩
          case measure => simp [intOf]; omega
      · obtain rfl : m = k := by omega
        go_wp2_with fail
        refine (c1 _).mono ?_
        rintro e w2 ⟨rfl, g⟩
        replace G := Bl.trans G g
        clear g
        go_wp2_with fail
        refine (c2 _).mono ?_
        rintro e w3 ⟨rfl, g⟩
        replace G := Bl.trans G g
        clear g
        go_wp2_with fail
        refine (c3 _).mono ?_
        rintro e w4 ⟨rfl, g⟩
        replace G := Bl.trans G g
        clear g
        go_wp2_with fail
        refine (tlives1 _).mono ?_
        rintro e w5 ⟨rfl, g⟩
        replace G := Bl.trans G g
        clear g
        go_wp2
        go_ret
        exact ⟨rfl, G⟩

set_option maxRecDepth 100000 in
theorem titleLong_lifted (os : Os) (started : os.Started) (H : Type) (enc : TypeId × Value → H) :
    ReturnsInHanded {} Try.checked os 9 .any (Rows.titleLongSpec.pre6 enc Try.prog Try.f9 Rows.titleLongRow.domain false) (Rows.titleLongSpec.post enc Try.prog Try.f9 false true false false) := by
  refine returnsInHanded_of_change (C := Try.checked) own started (by kernel_rfl) Try.func9
    (ChangeSpec.witness6 (enc := enc) (C := Try.checked) false ⟨#[], #[.int .i64 0, .bool false], []⟩ 8 (by kernel_rfl) (by kernel_rfl) (by kernel_rfl) (by kernel_rfl)) ?_
  intro W base args ds gs before hval0 hW hcnd _
  have hval : ∀ (j : Nat) t v, Try.f9.params[j]? = some t → args[j]? = some v → Value.okWide Try.prog W .any base t v := hval0
  have hW' := hW
  obtain ⟨p, q, hA0, hV, rfl, hfz, hnd⟩ := hW
  have hA : DataW.TrodAll enc Try.prog W 0 (fun _ => true) true Try.f9.params.toList args.toList ds p := hA0
  rw [Try.params9] at hA hval
  obtain ⟨v0, vs0, d0, ds0, p0, q0, hargs, rfl, rfl, h0, r0⟩ := trodAll_cons hA
  obtain ⟨v1, vs1, d1, ds1, p1, q1, rfl, rfl, rfl, h1, r1⟩ := trodAll_cons r0
  obtain ⟨rfl, rfl, rfl⟩ := trodAll_nil r1
  obtain rfl : args = #[v0, v1] := by cases args; simp_all
  obtain ⟨rfl, rfl⟩ := trodVars_none hV
  obtain ⟨n0, rfl, rfl, rfl, un0⟩ := open_int Try.underlying3 (hval 0 3 v0 rfl rfl) h0
  have wn0 := I64.of_wf un0
  obtain ⟨b1, rfl, rfl, rfl⟩ := open_bool Try.underlying4 (hval 1 4 v1 rfl rfl) h1
  clear hA0 hval0
  simp only [List.append_nil] at hW'
  refine (long_core n0 wn0 b1 W).mono fun e W' ⟨he, hb⟩ => ?_
  subst he
  exact ⟨_, rfl, close_below (pa := []) (pv := []) hW' (fun _ _ _ => (trodAll_cons_mk (shut_bool Try.underlying4 _) trodAll_mk0)) (fun sp _ => (trodAll_cons_mk (shut_int Try.underlying3 un0) (trodAll_cons_mk (shut_bool Try.underlying4 b1) trodAll_mk0)))
    (fun _ _ => rfl) rfl hb (ok_one (by kernel_rfl) rfl (okWide_bool_mk Try.underlying4 _))⟩

theorem titleLong_holds : Rows.TitleLongSaid :=
  OpenClaim.holds_of_wide 9 Try.f9 rfl rfl rfl rfl rfl rfl rfl ⟨rfl, rfl, rfl, rfl, rfl⟩ rfl rfl rfl rfl rfl (by kernel_rfl) Try.func9 (by kernel_rfl)
    (of_decide_eq_true (by kernel_rfl)) (by unfold Func.isWrapper; first | (rw [if_pos (by decide +kernel)]; kernel_rfl) | (rw [if_neg (by decide +kernel)]; exact ⟨rfl, rfl⟩))
    (fun os started H enc _ => titleLong_lifted os started H enc)

#print axioms titleLong_holds

end Go.Proofs.Ytcfckhelpnielaa
