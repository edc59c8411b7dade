/-
  What is proved: what the document's one tells of the sign that begins at a place of a text. No conditions but bounds.
-/
import Derived.Test.YthkbenhlhldglaaDoorMh
namespace Go.Proofs.YthkbenhlhldglaaDoor
open Go.RowKit Go.Sort Go.Shelf
attribute [local go_sem] Oper.semAt_some

theorem tlZ_cases (s : ByteArray) (p k : Nat) : (0 ≤ tlZ s (p + k) ∧ tlZ s (p + k) ≤ 63 ∧ k < s.size - p ∧ nb s.data.toList (p + k) / 64 = 2 ∧ ((nb s.data.toList (p + k) % 64 : Nat) : Int) = tlZ s (p + k)) ∨ (tlZ s (p + k) = -1 ∧ ¬ (k < s.size - p ∧ nb s.data.toList (p + k) / 64 = 2)) := by
  unfold tlZ
  split
  · left; omega
  · right; exact ⟨rfl, by omega⟩
theorem dcL_at (s : ByteArray) (p : Nat) : dcL (s.data.toList.drop p) = Lib.decodeN (s.size - p) (nb s.data.toList p) (nb s.data.toList (p + 1)) (nb s.data.toList (p + 2)) (nb s.data.toList (p + 3)) := by
  unfold dcL
  rw [nb_drop, nb_drop, nb_drop, nb_drop, List.length_drop, size_list]
  rfl

set_option maxRecDepth 1000000 in
set_option maxHeartbeats 8000000 in
theorem one1 (s : ByteArray) (p : Nat) (hp : p < s.size) (hs : s.size ≤ 1000000) (w : World) : Calls Tryd.prog 90 #[.string s, .int .i64 p] w
    (Rt w (.agg #[.int .i64 p, .int .i64 ((dcL (s.data.toList.drop p)).2 : Nat), .int .i64 ((dcL (s.data.toList.drop p)).1 : Nat), .bool (isBad (dcL (s.data.toList.drop p)))])) := by
  have c1 : ∀ w, Calls Tryd.prog 112 #[.string s, .int .i64 ((p : Int) + 1)] w fun e w' => e = .returned (.int .i64 (tlZ s (p + 1))) ∧ w = w' := fun w => tail1 s (p + 1) hs w
  have c2 : ∀ w, Calls Tryd.prog 112 #[.string s, .int .i64 ((p : Int) + 2)] w fun e w' => e = .returned (.int .i64 (tlZ s (p + 2))) ∧ w = w' := fun w => tail1 s (p + 2) hs w
  have c3 : ∀ w, Calls Tryd.prog 112 #[.string s, .int .i64 ((p : Int) + 3)] w fun e w' => e = .returned (.int .i64 (tlZ s (p + 3))) ∧ w = w' := fun w => tail1 s (p + 3) hs w
  have hx := tlZ_cases s p 1
  have hy := tlZ_cases s p 2
  have hz := tlZ_cases s p 3
  have hbx := nb_get s p hp
  have hc := nb_lt s.data.toList p
  rw [dcL_at]
  generalize tlZ s (p + 1) = x at *
  generalize tlZ s (p + 2) = y at *
  generalize tlZ s (p + 3) = z at *
  generalize nb s.data.toList (p + 1) = b1 at *
  generalize nb s.data.toList (p + 2) = b2 at *
  generalize nb s.data.toList (p + 3) = b3 at *
  generalize nb s.data.toList p = c at *
  generalize s.size - p = n at *
  have ha : (p : Int) ≤ 1000000 := by omega
  replace hbx := Lib.hid hbx
  by_cases h1 : c < 128
  · have hd : Lib.decodeN n c b1 b2 b3 = (c, 1) := by
      unfold Lib.decodeN
      rw [if_pos h1]
    have hR : (((c : Nat)) : Int) = (c : Int) := by omega
    rw [hd]
    dsimp only
    rw [show isBad (c, 1) = false from by unfold isBad; simp; omega]
    rw [hR]
    clear hd hR
    have q0 : ((c : Nat) : Int) < 128 := by omega
    have q1 : decide (194 ≤ ((c : Nat) : Int)) = false := by simp; omega
    have q2 : ((c : Nat) : Int) ≤ 223 := by omega
    have q3 : decide (224 ≤ ((c : Nat) : Int)) = false := by simp; omega
    have q4 : ((c : Nat) : Int) ≤ 239 := by omega
    have q5 : decide (240 ≤ ((c : Nat) : Int)) = false := by simp; omega
    have q6 : ((c : Nat) : Int) ≤ 244 := by omega
    try clear hx
    try clear hy
    try clear hz
    have h0 : (s[p]'hp).toNat < 256 := (s[p]'hp).toNat_lt
    go_enter Tryd.func90, Tryd.ntmps90
    go_wp2_with fail
    refine (c1 _).mono ?_
    rintro e w1 ⟨rfl, rfl⟩
    rw [hbx.out]
    clear h0
    go_wp2_with fail
    refine (c2 _).mono ?_
    rintro e w2 ⟨rfl, rfl⟩
    go_wp2_with fail
    refine (c3 _).mono ?_
    rintro e w3 ⟨rfl, rfl⟩
    go_wp2
    exact bodyPost_ret (v := .agg #[.int .i64 p, .int .i64 1, .int .i64 ((c : Int)), .bool false]) (by simp [results, Tryd.results90, go_sem]) rfl ⟨rfl, (Gr.refl w).alloc _⟩
  by_cases h2 : c < 194
  · have hd : Lib.decodeN n c b1 b2 b3 = (65533, 1) := by
      unfold Lib.decodeN
      repeat' split
      all_goals first | rfl | (exfalso; omega)
    rw [hd]
    dsimp only
    rw [show isBad (65533, 1) = true from by unfold isBad; simp]
    clear hd
    have q0 : decide (((c : Nat) : Int) < 128) = false := by simp; omega
    have q1 : decide (194 ≤ ((c : Nat) : Int)) = false := by simp; omega
    have q2 : ((c : Nat) : Int) ≤ 223 := by omega
    have q3 : decide (224 ≤ ((c : Nat) : Int)) = false := by simp; omega
    have q4 : ((c : Nat) : Int) ≤ 239 := by omega
    have q5 : decide (240 ≤ ((c : Nat) : Int)) = false := by simp; omega
    have q6 : ((c : Nat) : Int) ≤ 244 := by omega
    try clear hx
    try clear hy
    try clear hz
    have h0 : (s[p]'hp).toNat < 256 := (s[p]'hp).toNat_lt
    go_enter Tryd.func90, Tryd.ntmps90
    go_wp2_with fail
    refine (c1 _).mono ?_
    rintro e w1 ⟨rfl, rfl⟩
    rw [hbx.out]
    clear h0
    go_wp2_with fail
    refine (c2 _).mono ?_
    rintro e w2 ⟨rfl, rfl⟩
    go_wp2_with fail
    refine (c3 _).mono ?_
    rintro e w3 ⟨rfl, rfl⟩
    go_wp2
    exact bodyPost_ret (v := .agg #[.int .i64 p, .int .i64 1, .int .i64 (65533), .bool true]) (by simp [results, Tryd.results90, go_sem]) rfl ⟨rfl, (Gr.refl w).alloc _⟩
  by_cases h3 : c ≤ 223
  · rcases hx with ⟨x0, x1, x2, x3, x4⟩ | ⟨rfl, x2⟩
    · have hd : Lib.decodeN n c b1 b2 b3 = (c % 32 * 64 + b1 % 64, 2) := by
        unfold Lib.decodeN
        rw [if_neg (by omega), if_pos (by omega), if_pos (by omega)]
      have hR : (((c % 32 * 64 + b1 % 64 : Nat)) : Int) = ((c : Int) - 192) * 64 + x := by omega
      rw [hd]
      dsimp only
      rw [show isBad (c % 32 * 64 + b1 % 64, 2) = false from by unfold isBad; simp]
      rw [hR]
      clear hd hR
      have q0 : decide (((c : Nat) : Int) < 128) = false := by simp; omega
      have q1 : 194 ≤ ((c : Nat) : Int) := by omega
      have q2 : ((c : Nat) : Int) ≤ 223 := by omega
      have q3 : decide (224 ≤ ((c : Nat) : Int)) = false := by simp; omega
      have q4 : ((c : Nat) : Int) ≤ 239 := by omega
      have q5 : decide (240 ≤ ((c : Nat) : Int)) = false := by simp; omega
      have q6 : ((c : Nat) : Int) ≤ 244 := by omega
      try clear hx
      try clear hy
      try clear hz
      have h0 : (s[p]'hp).toNat < 256 := (s[p]'hp).toNat_lt
      go_enter Tryd.func90, Tryd.ntmps90
      go_wp2_with fail
      refine (c1 _).mono ?_
      rintro e w1 ⟨rfl, rfl⟩
      rw [hbx.out]
      clear h0
      go_wp2_with fail
      refine (c2 _).mono ?_
      rintro e w2 ⟨rfl, rfl⟩
      go_wp2_with fail
      refine (c3 _).mono ?_
      rintro e w3 ⟨rfl, rfl⟩
      go_wp2
      exact bodyPost_ret (v := .agg #[.int .i64 p, .int .i64 2, .int .i64 (((c : Int) - 192) * 64 + x), .bool false]) (by simp [results, Tryd.results90, go_sem]) rfl ⟨rfl, (Gr.refl w).alloc _⟩
    · have hd : Lib.decodeN n c b1 b2 b3 = (65533, 1) := by
        unfold Lib.decodeN
        repeat' split
        all_goals first | rfl | (exfalso; omega)
      rw [hd]
      dsimp only
      rw [show isBad (65533, 1) = true from by unfold isBad; simp]
      clear hd
      have q0 : decide (((c : Nat) : Int) < 128) = false := by simp; omega
      have q1 : 194 ≤ ((c : Nat) : Int) := by omega
      have q2 : ((c : Nat) : Int) ≤ 223 := by omega
      have q3 : decide (224 ≤ ((c : Nat) : Int)) = false := by simp; omega
      have q4 : ((c : Nat) : Int) ≤ 239 := by omega
      have q5 : decide (240 ≤ ((c : Nat) : Int)) = false := by simp; omega
      have q6 : ((c : Nat) : Int) ≤ 244 := by omega
      try clear hx
      try clear hy
      try clear hz
      have h0 : (s[p]'hp).toNat < 256 := (s[p]'hp).toNat_lt
      go_enter Tryd.func90, Tryd.ntmps90
      go_wp2_with fail
      refine (c1 _).mono ?_
      rintro e w1 ⟨rfl, rfl⟩
      rw [hbx.out]
      clear h0
      go_wp2_with fail
      refine (c2 _).mono ?_
      rintro e w2 ⟨rfl, rfl⟩
      go_wp2_with fail
      refine (c3 _).mono ?_
      rintro e w3 ⟨rfl, rfl⟩
      go_wp2
      exact bodyPost_ret (v := .agg #[.int .i64 p, .int .i64 1, .int .i64 (65533), .bool true]) (by simp [results, Tryd.results90, go_sem]) rfl ⟨rfl, (Gr.refl w).alloc _⟩
  by_cases h4 : c ≤ 239
  · rcases hx with ⟨x0, x1, x2, x3, x4⟩ | ⟨rfl, x2⟩
    · rcases hy with ⟨y0, y1, y2, y3, y4⟩ | ⟨rfl, y2⟩
      · have hr : (((c % 16 * 4096 + b1 % 64 * 64 + b2 % 64 : Nat)) : Int) = ((c : Int) - 224) * 4096 + x * 64 + y := by omega
        by_cases r1 : ((c : Int) - 224) * 4096 + x * 64 + y < 2048
        · have hd : Lib.decodeN n c b1 b2 b3 = (65533, 1) := by
            unfold Lib.decodeN
            repeat' split
            all_goals first | rfl | (exfalso; omega)
          rw [hd]
          dsimp only
          rw [show isBad (65533, 1) = true from by unfold isBad; simp]
          clear hd
          have q0 : decide (((c : Nat) : Int) < 128) = false := by simp; omega
          have q1 : 194 ≤ ((c : Nat) : Int) := by omega
          have q2 : decide (((c : Nat) : Int) ≤ 223) = false := by simp; omega
          have q3 : 224 ≤ ((c : Nat) : Int) := by omega
          have q4 : ((c : Nat) : Int) ≤ 239 := by omega
          have q5 : decide (240 ≤ ((c : Nat) : Int)) = false := by simp; omega
          have q6 : ((c : Nat) : Int) ≤ 244 := by omega
          have r1q : decide (2048 ≤ ((c : Int) - 224) * 4096 + x * 64 + y) = false := by simp; omega
          clear hr
          try clear hx
          try clear hy
          try clear hz
          have h0 : (s[p]'hp).toNat < 256 := (s[p]'hp).toNat_lt
          go_enter Tryd.func90, Tryd.ntmps90
          go_wp2_with fail
          refine (c1 _).mono ?_
          rintro e w1 ⟨rfl, rfl⟩
          rw [hbx.out]
          clear h0
          go_wp2_with fail
          refine (c2 _).mono ?_
          rintro e w2 ⟨rfl, rfl⟩
          go_wp2_with fail
          refine (c3 _).mono ?_
          rintro e w3 ⟨rfl, rfl⟩
          go_wp2
          exact bodyPost_ret (v := .agg #[.int .i64 p, .int .i64 1, .int .i64 (65533), .bool true]) (by simp [results, Tryd.results90, go_sem]) rfl ⟨rfl, (Gr.refl w).alloc _⟩
        by_cases r2 : ((c : Int) - 224) * 4096 + x * 64 + y < 55296
        · have hd : Lib.decodeN n c b1 b2 b3 = (c % 16 * 4096 + b1 % 64 * 64 + b2 % 64, 3) := by
            unfold Lib.decodeN
            rw [if_neg (by omega), if_neg (by omega), if_pos (by omega), if_pos (by omega)]
          have hR : (((c % 16 * 4096 + b1 % 64 * 64 + b2 % 64 : Nat)) : Int) = ((c : Int) - 224) * 4096 + x * 64 + y := by omega
          rw [hd]
          dsimp only
          rw [show isBad (c % 16 * 4096 + b1 % 64 * 64 + b2 % 64, 3) = false from by unfold isBad; simp]
          rw [hR]
          clear hd hR
          have q0 : decide (((c : Nat) : Int) < 128) = false := by simp; omega
          have q1 : 194 ≤ ((c : Nat) : Int) := by omega
          have q2 : decide (((c : Nat) : Int) ≤ 223) = false := by simp; omega
          have q3 : 224 ≤ ((c : Nat) : Int) := by omega
          have q4 : ((c : Nat) : Int) ≤ 239 := by omega
          have q5 : decide (240 ≤ ((c : Nat) : Int)) = false := by simp; omega
          have q6 : ((c : Nat) : Int) ≤ 244 := by omega
          have r1q : 2048 ≤ ((c : Int) - 224) * 4096 + x * 64 + y := by omega
          clear hr
          try clear hx
          try clear hy
          try clear hz
          have h0 : (s[p]'hp).toNat < 256 := (s[p]'hp).toNat_lt
          go_enter Tryd.func90, Tryd.ntmps90
          go_wp2_with fail
          refine (c1 _).mono ?_
          rintro e w1 ⟨rfl, rfl⟩
          rw [hbx.out]
          clear h0
          go_wp2_with fail
          refine (c2 _).mono ?_
          rintro e w2 ⟨rfl, rfl⟩
          go_wp2_with fail
          refine (c3 _).mono ?_
          rintro e w3 ⟨rfl, rfl⟩
          go_wp2
          exact bodyPost_ret (v := .agg #[.int .i64 p, .int .i64 3, .int .i64 (((c : Int) - 224) * 4096 + x * 64 + y), .bool false]) (by simp [results, Tryd.results90, go_sem]) rfl ⟨rfl, (Gr.refl w).alloc _⟩
        by_cases r3 : 57343 < ((c : Int) - 224) * 4096 + x * 64 + y
        · have hd : Lib.decodeN n c b1 b2 b3 = (c % 16 * 4096 + b1 % 64 * 64 + b2 % 64, 3) := by
            unfold Lib.decodeN
            rw [if_neg (by omega), if_neg (by omega), if_pos (by omega), if_pos (by omega)]
          have hR : (((c % 16 * 4096 + b1 % 64 * 64 + b2 % 64 : Nat)) : Int) = ((c : Int) - 224) * 4096 + x * 64 + y := by omega
          rw [hd]
          dsimp only
          rw [show isBad (c % 16 * 4096 + b1 % 64 * 64 + b2 % 64, 3) = false from by unfold isBad; simp]
          rw [hR]
          clear hd hR
          have q0 : decide (((c : Nat) : Int) < 128) = false := by simp; omega
          have q1 : 194 ≤ ((c : Nat) : Int) := by omega
          have q2 : decide (((c : Nat) : Int) ≤ 223) = false := by simp; omega
          have q3 : 224 ≤ ((c : Nat) : Int) := by omega
          have q4 : ((c : Nat) : Int) ≤ 239 := by omega
          have q5 : decide (240 ≤ ((c : Nat) : Int)) = false := by simp; omega
          have q6 : ((c : Nat) : Int) ≤ 244 := by omega
          have r1q : 2048 ≤ ((c : Int) - 224) * 4096 + x * 64 + y := by omega
          have r2q : decide (((c : Int) - 224) * 4096 + x * 64 + y < 55296) = false := by simp; omega
          clear hr
          try clear hx
          try clear hy
          try clear hz
          have h0 : (s[p]'hp).toNat < 256 := (s[p]'hp).toNat_lt
          go_enter Tryd.func90, Tryd.ntmps90
          go_wp2_with fail
          refine (c1 _).mono ?_
          rintro e w1 ⟨rfl, rfl⟩
          rw [hbx.out]
          clear h0
          go_wp2_with fail
          refine (c2 _).mono ?_
          rintro e w2 ⟨rfl, rfl⟩
          go_wp2_with fail
          refine (c3 _).mono ?_
          rintro e w3 ⟨rfl, rfl⟩
          go_wp2
          exact bodyPost_ret (v := .agg #[.int .i64 p, .int .i64 3, .int .i64 (((c : Int) - 224) * 4096 + x * 64 + y), .bool false]) (by simp [results, Tryd.results90, go_sem]) rfl ⟨rfl, (Gr.refl w).alloc _⟩
        have hd : Lib.decodeN n c b1 b2 b3 = (65533, 1) := by
          unfold Lib.decodeN
          repeat' split
          all_goals first | rfl | (exfalso; omega)
        rw [hd]
        dsimp only
        rw [show isBad (65533, 1) = true from by unfold isBad; simp]
        clear hd
        have q0 : decide (((c : Nat) : Int) < 128) = false := by simp; omega
        have q1 : 194 ≤ ((c : Nat) : Int) := by omega
        have q2 : decide (((c : Nat) : Int) ≤ 223) = false := by simp; omega
        have q3 : 224 ≤ ((c : Nat) : Int) := by omega
        have q4 : ((c : Nat) : Int) ≤ 239 := by omega
        have q5 : decide (240 ≤ ((c : Nat) : Int)) = false := by simp; omega
        have q6 : ((c : Nat) : Int) ≤ 244 := by omega
        have r1q : 2048 ≤ ((c : Int) - 224) * 4096 + x * 64 + y := by omega
        have r2q : decide (((c : Int) - 224) * 4096 + x * 64 + y < 55296) = false := by simp; omega
        have r3q : decide (57343 < ((c : Int) - 224) * 4096 + x * 64 + y) = false := by simp; omega
        clear hr
        try clear hx
        try clear hy
        try clear hz
        have h0 : (s[p]'hp).toNat < 256 := (s[p]'hp).toNat_lt
        go_enter Tryd.func90, Tryd.ntmps90
        go_wp2_with fail
        refine (c1 _).mono ?_
        rintro e w1 ⟨rfl, rfl⟩
        rw [hbx.out]
        clear h0
        go_wp2_with fail
        refine (c2 _).mono ?_
        rintro e w2 ⟨rfl, rfl⟩
        go_wp2_with fail
        refine (c3 _).mono ?_
        rintro e w3 ⟨rfl, rfl⟩
        go_wp2
        exact bodyPost_ret (v := .agg #[.int .i64 p, .int .i64 1, .int .i64 (65533), .bool true]) (by simp [results, Tryd.results90, go_sem]) rfl ⟨rfl, (Gr.refl w).alloc _⟩
      · have hd : Lib.decodeN n c b1 b2 b3 = (65533, 1) := by
          unfold Lib.decodeN
          repeat' split
          all_goals first | rfl | (exfalso; omega)
        rw [hd]
        dsimp only
        rw [show isBad (65533, 1) = true from by unfold isBad; simp]
        clear hd
        have q0 : decide (((c : Nat) : Int) < 128) = false := by simp; omega
        have q1 : 194 ≤ ((c : Nat) : Int) := by omega
        have q2 : decide (((c : Nat) : Int) ≤ 223) = false := by simp; omega
        have q3 : 224 ≤ ((c : Nat) : Int) := by omega
        have q4 : ((c : Nat) : Int) ≤ 239 := by omega
        have q5 : decide (240 ≤ ((c : Nat) : Int)) = false := by simp; omega
        have q6 : ((c : Nat) : Int) ≤ 244 := by omega
        try clear hx
        try clear hy
        try clear hz
        have h0 : (s[p]'hp).toNat < 256 := (s[p]'hp).toNat_lt
        go_enter Tryd.func90, Tryd.ntmps90
        go_wp2_with fail
        refine (c1 _).mono ?_
        rintro e w1 ⟨rfl, rfl⟩
        rw [hbx.out]
        clear h0
        go_wp2_with fail
        refine (c2 _).mono ?_
        rintro e w2 ⟨rfl, rfl⟩
        go_wp2_with fail
        refine (c3 _).mono ?_
        rintro e w3 ⟨rfl, rfl⟩
        go_wp2
        exact bodyPost_ret (v := .agg #[.int .i64 p, .int .i64 1, .int .i64 (65533), .bool true]) (by simp [results, Tryd.results90, go_sem]) rfl ⟨rfl, (Gr.refl w).alloc _⟩
    · have hd : Lib.decodeN n c b1 b2 b3 = (65533, 1) := by
        unfold Lib.decodeN
        repeat' split
        all_goals first | rfl | (exfalso; omega)
      rw [hd]
      dsimp only
      rw [show isBad (65533, 1) = true from by unfold isBad; simp]
      clear hd
      have q0 : decide (((c : Nat) : Int) < 128) = false := by simp; omega
      have q1 : 194 ≤ ((c : Nat) : Int) := by omega
      have q2 : decide (((c : Nat) : Int) ≤ 223) = false := by simp; omega
      have q3 : 224 ≤ ((c : Nat) : Int) := by omega
      have q4 : ((c : Nat) : Int) ≤ 239 := by omega
      have q5 : decide (240 ≤ ((c : Nat) : Int)) = false := by simp; omega
      have q6 : ((c : Nat) : Int) ≤ 244 := by omega
      try clear hx
      try clear hy
      try clear hz
      have h0 : (s[p]'hp).toNat < 256 := (s[p]'hp).toNat_lt
      go_enter Tryd.func90, Tryd.ntmps90
      go_wp2_with fail
      refine (c1 _).mono ?_
      rintro e w1 ⟨rfl, rfl⟩
      rw [hbx.out]
      clear h0
      go_wp2_with fail
      refine (c2 _).mono ?_
      rintro e w2 ⟨rfl, rfl⟩
      go_wp2_with fail
      refine (c3 _).mono ?_
      rintro e w3 ⟨rfl, rfl⟩
      go_wp2
      exact bodyPost_ret (v := .agg #[.int .i64 p, .int .i64 1, .int .i64 (65533), .bool true]) (by simp [results, Tryd.results90, go_sem]) rfl ⟨rfl, (Gr.refl w).alloc _⟩
  by_cases h5 : c ≤ 244
  · rcases hx with ⟨x0, x1, x2, x3, x4⟩ | ⟨rfl, x2⟩
    · rcases hy with ⟨y0, y1, y2, y3, y4⟩ | ⟨rfl, y2⟩
      · rcases hz with ⟨z0, z1, z2, z3, z4⟩ | ⟨rfl, z2⟩
        · have hr : (((c % 8 * 262144 + b1 % 64 * 4096 + b2 % 64 * 64 + b3 % 64 : Nat)) : Int) = ((c : Int) - 240) * 262144 + x * 4096 + y * 64 + z := by omega
          by_cases r1 : ((c : Int) - 240) * 262144 + x * 4096 + y * 64 + z < 65536
          · have hd : Lib.decodeN n c b1 b2 b3 = (65533, 1) := by
              unfold Lib.decodeN
              repeat' split
              all_goals first | rfl | (exfalso; omega)
            rw [hd]
            dsimp only
            rw [show isBad (65533, 1) = true from by unfold isBad; simp]
            clear hd
            have q0 : decide (((c : Nat) : Int) < 128) = false := by simp; omega
            have q1 : 194 ≤ ((c : Nat) : Int) := by omega
            have q2 : decide (((c : Nat) : Int) ≤ 223) = false := by simp; omega
            have q3 : 224 ≤ ((c : Nat) : Int) := by omega
            have q4 : decide (((c : Nat) : Int) ≤ 239) = false := by simp; omega
            have q5 : 240 ≤ ((c : Nat) : Int) := by omega
            have q6 : ((c : Nat) : Int) ≤ 244 := by omega
            have r1q : decide (65536 ≤ ((c : Int) - 240) * 262144 + x * 4096 + y * 64 + z) = false := by simp; omega
            clear hr
            try clear hx
            try clear hy
            try clear hz
            have h0 : (s[p]'hp).toNat < 256 := (s[p]'hp).toNat_lt
            go_enter Tryd.func90, Tryd.ntmps90
            go_wp2_with fail
            refine (c1 _).mono ?_
            rintro e w1 ⟨rfl, rfl⟩
            rw [hbx.out]
            clear h0
            go_wp2_with fail
            refine (c2 _).mono ?_
            rintro e w2 ⟨rfl, rfl⟩
            go_wp2_with fail
            refine (c3 _).mono ?_
            rintro e w3 ⟨rfl, rfl⟩
            go_wp2
            exact bodyPost_ret (v := .agg #[.int .i64 p, .int .i64 1, .int .i64 (65533), .bool true]) (by simp [results, Tryd.results90, go_sem]) rfl ⟨rfl, (Gr.refl w).alloc _⟩
          by_cases r2 : ((c : Int) - 240) * 262144 + x * 4096 + y * 64 + z ≤ 1114111
          · have hd : Lib.decodeN n c b1 b2 b3 = (c % 8 * 262144 + b1 % 64 * 4096 + b2 % 64 * 64 + b3 % 64, 4) := by
              unfold Lib.decodeN
              rw [if_neg (by omega), if_neg (by omega), if_neg (by omega), if_pos (by omega), if_pos (by omega)]
            have hR : (((c % 8 * 262144 + b1 % 64 * 4096 + b2 % 64 * 64 + b3 % 64 : Nat)) : Int) = ((c : Int) - 240) * 262144 + x * 4096 + y * 64 + z := by omega
            rw [hd]
            dsimp only
            rw [show isBad (c % 8 * 262144 + b1 % 64 * 4096 + b2 % 64 * 64 + b3 % 64, 4) = false from by unfold isBad; simp]
            rw [hR]
            clear hd hR
            have q0 : decide (((c : Nat) : Int) < 128) = false := by simp; omega
            have q1 : 194 ≤ ((c : Nat) : Int) := by omega
            have q2 : decide (((c : Nat) : Int) ≤ 223) = false := by simp; omega
            have q3 : 224 ≤ ((c : Nat) : Int) := by omega
            have q4 : decide (((c : Nat) : Int) ≤ 239) = false := by simp; omega
            have q5 : 240 ≤ ((c : Nat) : Int) := by omega
            have q6 : ((c : Nat) : Int) ≤ 244 := by omega
            have r1q : 65536 ≤ ((c : Int) - 240) * 262144 + x * 4096 + y * 64 + z := by omega
            clear hr
            try clear hx
            try clear hy
            try clear hz
            have h0 : (s[p]'hp).toNat < 256 := (s[p]'hp).toNat_lt
            go_enter Tryd.func90, Tryd.ntmps90
            go_wp2_with fail
            refine (c1 _).mono ?_
            rintro e w1 ⟨rfl, rfl⟩
            rw [hbx.out]
            clear h0
            go_wp2_with fail
            refine (c2 _).mono ?_
            rintro e w2 ⟨rfl, rfl⟩
            go_wp2_with fail
            refine (c3 _).mono ?_
            rintro e w3 ⟨rfl, rfl⟩
            go_wp2
            exact bodyPost_ret (v := .agg #[.int .i64 p, .int .i64 4, .int .i64 (((c : Int) - 240) * 262144 + x * 4096 + y * 64 + z), .bool false]) (by simp [results, Tryd.results90, go_sem]) rfl ⟨rfl, (Gr.refl w).alloc _⟩
          have hd : Lib.decodeN n c b1 b2 b3 = (65533, 1) := by
            unfold Lib.decodeN
            repeat' split
            all_goals first | rfl | (exfalso; omega)
          rw [hd]
          dsimp only
          rw [show isBad (65533, 1) = true from by unfold isBad; simp]
          clear hd
          have q0 : decide (((c : Nat) : Int) < 128) = false := by simp; omega
          have q1 : 194 ≤ ((c : Nat) : Int) := by omega
          have q2 : decide (((c : Nat) : Int) ≤ 223) = false := by simp; omega
          have q3 : 224 ≤ ((c : Nat) : Int) := by omega
          have q4 : decide (((c : Nat) : Int) ≤ 239) = false := by simp; omega
          have q5 : 240 ≤ ((c : Nat) : Int) := by omega
          have q6 : ((c : Nat) : Int) ≤ 244 := by omega
          have r1q : 65536 ≤ ((c : Int) - 240) * 262144 + x * 4096 + y * 64 + z := by omega
          have r2q : decide (((c : Int) - 240) * 262144 + x * 4096 + y * 64 + z ≤ 1114111) = false := by simp; omega
          clear hr
          try clear hx
          try clear hy
          try clear hz
          have h0 : (s[p]'hp).toNat < 256 := (s[p]'hp).toNat_lt
          go_enter Tryd.func90, Tryd.ntmps90
          go_wp2_with fail
          refine (c1 _).mono ?_
          rintro e w1 ⟨rfl, rfl⟩
          rw [hbx.out]
          clear h0
          go_wp2_with fail
          refine (c2 _).mono ?_
          rintro e w2 ⟨rfl, rfl⟩
          go_wp2_with fail
          refine (c3 _).mono ?_
          rintro e w3 ⟨rfl, rfl⟩
          go_wp2
          exact bodyPost_ret (v := .agg #[.int .i64 p, .int .i64 1, .int .i64 (65533), .bool true]) (by simp [results, Tryd.results90, go_sem]) rfl ⟨rfl, (Gr.refl w).alloc _⟩
        · have hd : Lib.decodeN n c b1 b2 b3 = (65533, 1) := by
            unfold Lib.decodeN
            repeat' split
            all_goals first | rfl | (exfalso; omega)
          rw [hd]
          dsimp only
          rw [show isBad (65533, 1) = true from by unfold isBad; simp]
          clear hd
          have q0 : decide (((c : Nat) : Int) < 128) = false := by simp; omega
          have q1 : 194 ≤ ((c : Nat) : Int) := by omega
          have q2 : decide (((c : Nat) : Int) ≤ 223) = false := by simp; omega
          have q3 : 224 ≤ ((c : Nat) : Int) := by omega
          have q4 : decide (((c : Nat) : Int) ≤ 239) = false := by simp; omega
          have q5 : 240 ≤ ((c : Nat) : Int) := by omega
          have q6 : ((c : Nat) : Int) ≤ 244 := by omega
          try clear hx
          try clear hy
          try clear hz
          have h0 : (s[p]'hp).toNat < 256 := (s[p]'hp).toNat_lt
          go_enter Tryd.func90, Tryd.ntmps90
          go_wp2_with fail
          refine (c1 _).mono ?_
          rintro e w1 ⟨rfl, rfl⟩
          rw [hbx.out]
          clear h0
          go_wp2_with fail
          refine (c2 _).mono ?_
          rintro e w2 ⟨rfl, rfl⟩
          go_wp2_with fail
          refine (c3 _).mono ?_
          rintro e w3 ⟨rfl, rfl⟩
          go_wp2
          exact bodyPost_ret (v := .agg #[.int .i64 p, .int .i64 1, .int .i64 (65533), .bool true]) (by simp [results, Tryd.results90, go_sem]) rfl ⟨rfl, (Gr.refl w).alloc _⟩
      · have hd : Lib.decodeN n c b1 b2 b3 = (65533, 1) := by
          unfold Lib.decodeN
          repeat' split
          all_goals first | rfl | (exfalso; omega)
        rw [hd]
        dsimp only
        rw [show isBad (65533, 1) = true from by unfold isBad; simp]
        clear hd
        have q0 : decide (((c : Nat) : Int) < 128) = false := by simp; omega
        have q1 : 194 ≤ ((c : Nat) : Int) := by omega
        have q2 : decide (((c : Nat) : Int) ≤ 223) = false := by simp; omega
        have q3 : 224 ≤ ((c : Nat) : Int) := by omega
        have q4 : decide (((c : Nat) : Int) ≤ 239) = false := by simp; omega
        have q5 : 240 ≤ ((c : Nat) : Int) := by omega
        have q6 : ((c : Nat) : Int) ≤ 244 := by omega
        try clear hx
        try clear hy
        try clear hz
        have h0 : (s[p]'hp).toNat < 256 := (s[p]'hp).toNat_lt
        go_enter Tryd.func90, Tryd.ntmps90
        go_wp2_with fail
        refine (c1 _).mono ?_
        rintro e w1 ⟨rfl, rfl⟩
        rw [hbx.out]
        clear h0
        go_wp2_with fail
        refine (c2 _).mono ?_
        rintro e w2 ⟨rfl, rfl⟩
        go_wp2_with fail
        refine (c3 _).mono ?_
        rintro e w3 ⟨rfl, rfl⟩
        go_wp2
        exact bodyPost_ret (v := .agg #[.int .i64 p, .int .i64 1, .int .i64 (65533), .bool true]) (by simp [results, Tryd.results90, go_sem]) rfl ⟨rfl, (Gr.refl w).alloc _⟩
    · have hd : Lib.decodeN n c b1 b2 b3 = (65533, 1) := by
        unfold Lib.decodeN
        repeat' split
        all_goals first | rfl | (exfalso; omega)
      rw [hd]
      dsimp only
      rw [show isBad (65533, 1) = true from by unfold isBad; simp]
      clear hd
      have q0 : decide (((c : Nat) : Int) < 128) = false := by simp; omega
      have q1 : 194 ≤ ((c : Nat) : Int) := by omega
      have q2 : decide (((c : Nat) : Int) ≤ 223) = false := by simp; omega
      have q3 : 224 ≤ ((c : Nat) : Int) := by omega
      have q4 : decide (((c : Nat) : Int) ≤ 239) = false := by simp; omega
      have q5 : 240 ≤ ((c : Nat) : Int) := by omega
      have q6 : ((c : Nat) : Int) ≤ 244 := by omega
      try clear hx
      try clear hy
      try clear hz
      have h0 : (s[p]'hp).toNat < 256 := (s[p]'hp).toNat_lt
      go_enter Tryd.func90, Tryd.ntmps90
      go_wp2_with fail
      refine (c1 _).mono ?_
      rintro e w1 ⟨rfl, rfl⟩
      rw [hbx.out]
      clear h0
      go_wp2_with fail
      refine (c2 _).mono ?_
      rintro e w2 ⟨rfl, rfl⟩
      go_wp2_with fail
      refine (c3 _).mono ?_
      rintro e w3 ⟨rfl, rfl⟩
      go_wp2
      exact bodyPost_ret (v := .agg #[.int .i64 p, .int .i64 1, .int .i64 (65533), .bool true]) (by simp [results, Tryd.results90, go_sem]) rfl ⟨rfl, (Gr.refl w).alloc _⟩
  have hd : Lib.decodeN n c b1 b2 b3 = (65533, 1) := by
    unfold Lib.decodeN
    repeat' split
    all_goals first | rfl | (exfalso; omega)
  rw [hd]
  dsimp only
  rw [show isBad (65533, 1) = true from by unfold isBad; simp]
  clear hd
  have q0 : decide (((c : Nat) : Int) < 128) = false := by simp; omega
  have q1 : 194 ≤ ((c : Nat) : Int) := by omega
  have q2 : decide (((c : Nat) : Int) ≤ 223) = false := by simp; omega
  have q3 : 224 ≤ ((c : Nat) : Int) := by omega
  have q4 : decide (((c : Nat) : Int) ≤ 239) = false := by simp; omega
  have q5 : 240 ≤ ((c : Nat) : Int) := by omega
  have q6 : decide (((c : Nat) : Int) ≤ 244) = false := by simp; omega
  try clear hx
  try clear hy
  try clear hz
  have h0 : (s[p]'hp).toNat < 256 := (s[p]'hp).toNat_lt
  go_enter Tryd.func90, Tryd.ntmps90
  go_wp2_with fail
  refine (c1 _).mono ?_
  rintro e w1 ⟨rfl, rfl⟩
  rw [hbx.out]
  clear h0
  go_wp2_with fail
  refine (c2 _).mono ?_
  rintro e w2 ⟨rfl, rfl⟩
  go_wp2_with fail
  refine (c3 _).mono ?_
  rintro e w3 ⟨rfl, rfl⟩
  go_wp2
  exact bodyPost_ret (v := .agg #[.int .i64 p, .int .i64 1, .int .i64 (65533), .bool true]) (by simp [results, Tryd.results90, go_sem]) rfl ⟨rfl, (Gr.refl w).alloc _⟩

end Go.Proofs.YthkbenhlhldglaaDoor
