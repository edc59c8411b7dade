/-
  What is proved: what Letters of the document's package hands back of any text. No conditions but a bound.
-/
import Derived.Test.YtaebbkfbapajkaaDoorUp
namespace Go.Proofs.YtaebbkfbapajkaaDoor
open Go.RowKit Go.Sort
attribute [local go_sem ↓] run_min2 run_max2

theorem concat_one (t : ByteArray) (c : UInt8) : (t ++ (⟨#[c]⟩ : ByteArray)).data.toList = t.data.toList ++ [c] := by
  rw [Go.Joins.data_append]
set_option maxRecDepth 100000 in
set_option maxHeartbeats 4000000 in
theorem letters1 (s : ByteArray) (w : World) (hs : s.size ≤ maxLen) :
    Calls Tryd.prog 10 #[.string s] w fun e w' => ∃ T : ByteArray, e = .returned (.string T) ∧ T.data.toList = lets (s.data.toList.take 8) ∧ Bl w w' := by
  have hsz : s.data.toList.length = s.size := rfl
  have hsm : (s.size : Int) ≤ 9223372036854775807 := by unfold maxLen at hs; omega
  obtain ⟨F, hF⟩ : ∃ F, F = lets (s.data.toList.take 8) := ⟨_, rfl⟩
  obtain ⟨m, hm⟩ : ∃ m, m = min s.size 8 := ⟨_, rfl⟩
  have hm1 : min (s.size : Int) 8 = (m : Int) := by omega
  have htl : (s.data.toList.take 8).length = m := by rw [List.length_take, hsz, hm, Nat.min_comm]
  have hFl : F.length = m := by rw [hF, lets_len, htl]
  rw [← hF]
  replace hF := Lib.hid hF
  replace hm := Lib.hid hm
  replace hsz := Lib.hid hsz
  replace htl := Lib.hid htl
  replace hFl := Lib.hid hFl
  replace hm1 := Lib.hid hm1
  go_enter Tryd.func10, Tryd.ntmps10
  go_wp2
  go_loopw [3, 4] (fun t i wr => ∃ k T, k ≤ m ∧ i = .int .i64 ((k : Nat) : Int) ∧ t = .string T ∧ Hid (T.data.toList = F.take k) ∧ Bl w wr) (fun _ i _ => 8 - (intOf i).toNat)
  case atStart => exact ⟨0, _, Nat.zero_le _, rfl, rfl, Lib.hid rfl, Bl.refl _⟩
  case round =>
    obtain ⟨k, T, hk, rfl, rfl, hT, G⟩ := hrel
    by_cases hlt : k < m
    · have hm8 : m ≤ 8 ∧ m ≤ s.size := by rw [hm.out]; omega
      obtain ⟨hm8, hms⟩ := hm8
      have q1 : (k : Int) < s.size := by omega
      have q2 : (k : Int) < 8 := by omega
      have q3 : k < s.size := by omega
      have hc : (s.data.toList.take 8)[k]? = some s[k] := by
        rw [List.getElem?_take, if_pos (by omega)]; exact letter_at s q3
      have hg := lets_get _ k s[k] hc
      rw [← hF.out, htl.out] at hg
      obtain ⟨r, hr⟩ : ∃ r, r = s[k].toNat % 5 := ⟨_, rfl⟩
      have hr5 : r < 5 := by omega
      have hri : (s[k].toNat : Int) % 5 = (r : Int) := by omega
      rw [← hr] at hg
      have nx : ∀ j, (if r = 4 ∧ k + 1 < m then 3 else r) = j → (T ++ (⟨#[letK j]⟩ : ByteArray)).data.toList = F.take (k + 1) := by
        intro j hj
        rw [hj] at hg
        rw [take_snoc hg, concat_one, hT.out]
      replace hc := Lib.hid hc
      replace hg := Lib.hid hg
      replace hr := Lib.hid hr
      replace nx := Lib.hid nx
      have hm1 := hm1.out
      have hb8 : (s[k].toNat : Int) < 256 := by have := s[k].toNat_lt; omega
      have hTs : T.size ≤ 8 := by
        have : T.size = (F.take k).length := by rw [← hT.out]; rfl
        rw [this, List.length_take]; omega
      by_cases h4 : r = 4 ∧ k + 1 < m
      · obtain ⟨h4, h5⟩ := h4
        subst h4
        have q4 : (k : Int) < (m : Int) - 1 := by omega
        have hx := nx.out 3 (by rw [if_pos ⟨rfl, h5⟩])
        have he : (⟨#[105, 117, 115, 114, 98]⟩ : ByteArray).extract 3 4 = ⟨#[letK 3]⟩ := rfl
        replace hx := Lib.hid hx
        generalize letK 3 = cc at *
        go_wp2
        go_roundw
        case rel => exact ⟨k + 1, _, by omega, by go_num, rfl, hx, G⟩
        case measure => simp [intOf]; omega
      · have hx := nx.out r (by rw [if_neg h4])
        have he := let_ext r hr5
        replace hx := Lib.hid hx
        by_cases h44 : r = 4
        · have q4 : ¬ (k : Int) < (m : Int) - 1 := by omega
          subst h44
          generalize letK 4 = cc at *
          clear h4 hr5
          go_wp2
          go_roundw
          case rel => exact ⟨k + 1, _, by omega, by go_num, rfl, hx, G⟩
          case measure => simp [intOf]; omega
        · have h45 : r = 0 ∨ r = 1 ∨ r = 2 ∨ r = 3 := by omega
          clear h4 hr5 h44
          rcases h45 with rfl | rfl | rfl | rfl
          all_goals
            simp only [Nat.zero_add, Nat.reduceAdd] at he
            generalize letK _ = cc at *
            go_wp2
            go_roundw
            case rel => exact ⟨k + 1, _, by omega, by go_num, rfl, hx, G⟩
            case measure => simp [intOf]; omega
    · have hkm : k = m := by omega
      have hfin : T.data.toList = F := by rw [hT.out, List.take_of_length_le (by rw [hFl.out]; omega)]
      have hm2 := hm.out
      replace hfin := Lib.hid hfin
      by_cases hks : k < s.size
      · have q1 : (k : Int) < s.size := by omega
        have q2 : ¬ (k : Int) < 8 := by omega
        clear hm2
        replace hkm := Lib.hid hkm
        go_wp2
        go_ret
        exact ⟨T, rfl, hfin.out, G⟩
      · have q1 : ¬ (k : Int) < s.size := by omega
        clear hm2
        replace hkm := Lib.hid hkm
        go_wp2
        go_ret
        exact ⟨T, rfl, hfin.out, G⟩

end Go.Proofs.YtaebbkfbapajkaaDoor
