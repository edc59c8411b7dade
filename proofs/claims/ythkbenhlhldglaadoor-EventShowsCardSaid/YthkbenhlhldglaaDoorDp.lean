/-
  What is proved: what Show of the document's package of events hands back of any event whose numbers are ints. No other condition.
-/
import Derived.Test.YthkbenhlhldglaaDoorDo
namespace Go.Proofs.YthkbenhlhldglaaDoor
open Go.RowKit Go.Sort
def enC : Array Value := #[.string (enS 0), .string (enS 1), .string (enS 2), .string (enS 3), .string (enS 4), .string (enS 5)]
theorem enC_at {n : Nat} (h : n < 6) : enC[n]? = some (.string (enS n)) := by
  rcases six h with rfl | rfl | rfl | rfl | rfl | rfl <;> rfl
set_option maxRecDepth 100000 in
set_option maxHeartbeats 2000000 in
theorem reShow0 (e : Ev) (w : World) (h : ¬ (0 ≤ e.k ∧ e.k ≤ 5)) : Calls Tryd.prog 39 #[vE e] w (fun x w' => x = .returned (.string (shS e)) ∧ Bl w w') := by
  have hs : shS e = ⟨#[]⟩ := by unfold shS showE; rw [if_neg h]
  rw [hs]
  obtain ⟨k, id, a, b⟩ := e
  unfold vE
  dsimp only at *
  clear hs
  by_cases h0 : k < 0
  · clear h
    go_enter Tryd.func39, Tryd.ntmps39
    go_wp2
    go_ret
    exact ⟨rfl, (Bl.refl w).alloc _⟩
  · have h1 : 5 < k := by omega
    clear h
    go_enter Tryd.func39, Tryd.ntmps39
    go_wp2
    go_ret
    exact ⟨rfl, (Bl.refl w).alloc _⟩
set_option maxRecDepth 100000 in
set_option maxHeartbeats 4000000 in
theorem reShow1 (e : Ev) (n : Nat) (hn : e.k = n) (h6 : n < 6) (hi : I64e e) (w : World) : Calls Tryd.prog 39 #[vE e] w (fun x w' => x = .returned (.string (shS e)) ∧ Bl w w') := by
  have hkn : e.k.toNat = n := by omega
  have hs : shS e = tx32 n (e.id :: numsE e) := by unfold shS tx32 showE; rw [if_pos (by omega), hkn]
  have hl2 := (efL_ok h6).2.2
  have hnum : numsE e = ([e.a, e.b] : List Int).take (efL n).length := by unfold numsE; rw [hkn]
  rw [hs, hnum]
  have cF := fun V => formE1 n h6 V
  have ci := fun x (h0 : -9223372036854775808 ≤ x) (h1 : x ≤ 9223372036854775807) V => decimal1 x.natAbs x (Nat.le_refl _) h0 h1 V
  have hNs := enS_size h6
  have hone := tx32_one n e.id
  have hsn := tx32_snoc n
  have hat := enC_at h6
  obtain ⟨k, id, a, b⟩ := e
  obtain ⟨hk, ⟨i0, i1⟩, ⟨a0, a1⟩, ⟨b0, b1⟩⟩ := hi
  unfold vE at *
  dsimp only at *
  have hidz := itS_size i0 i1
  have haz := itS_size a0 a1
  have hbz := itS_size b0 b1
  have cid := ci id i0 i1
  have ca := ci a a0 a1
  have cb := ci b b0 b1
  subst hn
  generalize hm : (efL n).length = m at *
  have hFm : (efS n).size = m := hm
  generalize hF : efS n = F at *
  generalize hN : enS n = N at *
  have hb1 : (⟨#[32]⟩ : ByteArray).size = 1 := rfl
  have hn5 : (n : Int) ≤ 5 := by omega
  have hn0 : (0 : Int) ≤ n := by omega
  have hn6 : (n : Int) < 6 := by omega
  have X := (At.new w #[.int .i64 n, .int .i64 id, .int .i64 a, .int .i64 b] 62)
  have G := ((Bl.refl w).alloc (.cells #[.int .i64 n, .int .i64 id, .int .i64 a, .int .i64 b] 62))
  replace hone := Lib.hid hone
  replace hsn := Lib.hid hsn
  clear hs hnum hkn hF hN hm
  go_enter Tryd.func39, Tryd.ntmps39
  go_wp2
  generalize w.alloc (.cells #[.int .i64 n, .int .i64 id, .int .i64 a, .int .i64 b] 62) = w1 at *
  have SK : ∀ V, Bl w1 V → V.cell? ⟨w.heap.size, 0, none⟩ = some (.int .i64 n) ∧ V.cell? ⟨w.heap.size, 1, none⟩ = some (.int .i64 id) ∧ Bl w1 V := fun V g => ⟨(X.bl g).cell 0, (X.bl g).cell 1, g⟩
  have hz3 : True := trivial
  have hz5 : ¬ 9223372036854775807 < N.size + 1 := by omega
  have hz9 : ¬ 9223372036854775807 < N.size + 1 + (itS id).size := by omega
  have hz10 : True := trivial
  replace SK := Lib.hid SK
  refine wp_region_held_drew (S := fun V => V.cell? ⟨w.heap.size, 0, none⟩ = some (.int .i64 n) ∧ V.cell? ⟨w.heap.size, 1, none⟩ = some (.int .i64 id) ∧ Bl w1 V) (by kernel_rfl) (SK.out _ (Bl.refl w1).drew) (fun hHeld => ?_)
  refine wpAnyH_take (i := 1) (v := ?_) rfl (by kernel_rfl) (by kernel_rfl) (by kernel_rfl) (fun _ _ _ h => h) (Or.inl ⟨by rfl, ?hy1⟩) (by assumption) ?rest1
  case hy1 => intro w' hSw; (try dsimp only at hSw); go_simp; (try with_reducible rfl)
  simp only [Act.put, List.setIfInBounds_toArray]
  refine wpAnyH_take (i := 2) (v := ?_) rfl (by kernel_rfl) (by kernel_rfl) (by kernel_rfl) (fun _ _ _ h => h) (Or.inl ⟨by rfl, ?hy2⟩) (by assumption) ?rest2
  case hy2 => intro w' hSw; (try dsimp only at hSw); go_simp; (try with_reducible rfl)
  simp only [Act.put]
  refine wpAnyH_take (i := 6) (v := ?_) rfl (by kernel_rfl) (by kernel_rfl) (by kernel_rfl) (fun _ _ _ h => h) (Or.inl ⟨by rfl, ?hy6⟩) (by assumption) ?rest6
  case hy6 => intro w' hSw; (try dsimp only at hSw); go_simp; (try with_reducible rfl)
  simp only [Act.put]
  refine wpAnyH_take (i := 7) (v := ?_) rfl (by kernel_rfl) (by kernel_rfl) (by kernel_rfl) (fun _ _ _ h => h) (Or.inl ⟨by rfl, ?hy7⟩) (by assumption) ?rest7
  case hy7 => intro w' hSw; (try dsimp only at hSw); go_simp; (try with_reducible rfl)
  simp only [Act.put]
  refine wpAnyH_ready (rs := [0, 8]) (by kernel_rfl) (by simp) (AllReadyH.cons rfl (fun K9 hK9 => ?_) (AllReadyH.cons rfl (fun K9 hK9 => ?_) AllReadyH.nil))
  · go_simp
    have GwA : Bl w1 (w1.alloc (.cells #[.string ⟨#[101, 114, 114, 111, 114]⟩, .string ⟨#[102, 97, 116, 97, 108]⟩, .string ⟨#[114, 101, 108, 101, 97, 115, 101]⟩, .string ⟨#[100, 111, 110, 101]⟩, .string ⟨#[101, 110, 116, 101, 114]⟩, .string ⟨#[108, 101, 97, 118, 101]⟩] 9)).drew := ((Bl.refl w1).alloc _).drew
    have NwA : ∀ V, Bl (w1.alloc (.cells #[.string ⟨#[101, 114, 114, 111, 114]⟩, .string ⟨#[102, 97, 116, 97, 108]⟩, .string ⟨#[114, 101, 108, 101, 97, 115, 101]⟩, .string ⟨#[100, 111, 110, 101]⟩, .string ⟨#[101, 110, 116, 101, 114]⟩, .string ⟨#[108, 101, 97, 118, 101]⟩] 9)).drew V → V.cell? ⟨w1.heap.size, n, none⟩ = some (.string N) := fun V g => by
      rw [((At.newAt (w := w1) (n := w1.heap.size) (by simp) enC 9).drew.bl g).cell n, hat]
    generalize (w1.alloc (.cells #[.string ⟨#[101, 114, 114, 111, 114]⟩, .string ⟨#[102, 97, 116, 97, 108]⟩, .string ⟨#[114, 101, 108, 101, 97, 115, 101]⟩, .string ⟨#[100, 111, 110, 101]⟩, .string ⟨#[101, 110, 116, 101, 114]⟩, .string ⟨#[108, 101, 97, 118, 101]⟩] 9)).drew = wA at *
    have nwA := NwA wA (Bl.refl _)
    refine hK9.out _ _ (SK.out _ GwA) (fun _ => ?_)
    clear hK9 K9
    try simp only [Act.put]
    refine wpAnyH_take (i := 3) (v := ?_) rfl (by kernel_rfl) (by kernel_rfl) (by kernel_rfl) (fun _ _ _ h => h) (Or.inl ⟨by rfl, ?hy3_1⟩) (by assumption) ?rest3_1
    case hy3_1 => intro w' hSw; (try dsimp only at hSw); go_simp; (try rw [if_neg hz3]); (try with_reducible rfl)
    try simp only [Act.put]
    refine wpAnyH_ready (rs := [4, 8]) (by kernel_rfl) (by simp) (AllReadyH.cons rfl (fun K9 hK9 => ?_) (AllReadyH.cons rfl (fun K9 hK9 => ?_) AllReadyH.nil))
    · go_simp
      refine hK9.out _ _ (SK.out _ GwA) (fun _ => ?_)
      clear hK9 K9
      try simp only [Act.put]
      refine wpAnyH_take (i := 5) (v := ?_) rfl (by kernel_rfl) (by kernel_rfl) (by kernel_rfl) (fun _ _ _ h => h) (Or.inl ⟨by rfl, ?hy5_2⟩) (by assumption) ?rest5_2
      case hy5_2 => intro w' hSw; (try dsimp only at hSw); go_simp; (try rw [if_neg hz5]); (try with_reducible rfl)
      try simp only [Act.put]
      refine wpAnyH_ready (rs := [8]) (by kernel_rfl) (by simp) (AllReadyH.cons rfl (fun K9 hK9 => ?_) AllReadyH.nil)
      go_simp
      refine (cid _).mono ?_
      rintro e V8 ⟨rfl, g8⟩
      have GF : Bl w1 V8 := (GwA).gr g8
      dsimp only
      refine hK9.out _ _ (SK.out _ GF) (fun _ => ?_)
      clear hK9 K9
      try simp only [Act.put]
      refine wpAnyH_take (i := 9) (v := ?_) rfl (by kernel_rfl) (by kernel_rfl) (by kernel_rfl) (fun _ _ _ h => h) (Or.inl ⟨by rfl, ?hy9_3⟩) (by assumption) ?rest9_3
      case hy9_3 => intro w' hSw; (try dsimp only at hSw); go_simp; (try rw [if_neg hz9]); (try with_reducible rfl)
      try simp only [Act.put]
      refine wpAnyH_take (i := 10) (v := ?_) rfl (by kernel_rfl) (by kernel_rfl) (by kernel_rfl) (fun _ _ _ h => h) (Or.inl ⟨by rfl, ?hy10_4⟩) (by assumption) ?rest10_4
      case hy10_4 => intro w' hSw; (try dsimp only at hSw); go_simp; (try rw [if_neg hz10]); (try with_reducible rfl)
      try simp only [Act.put]
      refine wpAnyH_done (by kernel_rfl) ?_ _
      have XF := X.bl GF
      have G2 := G.trans GF
      rw [← hone.out]
      have hTz : (tx32 n [id]).size ≤ 29 := by
        rw [hone.out]
        simp only [ByteArray.size_append]
        omega
      obtain ⟨T0, hT0⟩ : ∃ T, T = tx32 n [id] := ⟨_, rfl⟩
      rw [← hT0] at hTz ⊢
      replace hT0 := Lib.hid hT0
      obtain ⟨k0, k1, k2, k3⟩ := cells4E XF
      clear hHeld SK cid hone
      go_wp2_with fail
      refine (cF _).mono ?_
      rintro e w3 ⟨rfl, g3⟩
      have X3 := XF.gr g3
      have G3 := G2.gr g3
      clear k0 k1 k2 k3 XF G2 cF
      obtain ⟨k0, k1, k2, k3⟩ := cells4E X3
      have h3 : m = 0 ∨ m = 1 ∨ m = 2 := by omega
      rcases h3 with rfl | rfl | rfl
      · have hFi : (F.size : Int) = 0 := by omega
        clear hFm
        go_wp2
        go_ret
        exact ⟨by rw [hT0.out]; rfl, G3⟩
      · have hFi : (F.size : Int) = 1 := by omega
        have he : T0 ++ ⟨#[32]⟩ ++ itS a = tx32 n [id, a] := by rw [ByteArray.append_assoc, hT0.out, ← hsn.out]; rfl
        replace he := Lib.hid he
        clear hFm
        go_wp2_with fail
        refine (ca _).mono ?_
        rintro e w4 ⟨rfl, g4⟩
        go_wp2
        go_ret
        exact ⟨congrArg (fun x => Ending.returned (Value.string x)) he.out, G3.gr g4⟩
      · have hFi : (F.size : Int) = 2 := by omega
        have he : T0 ++ ⟨#[32]⟩ ++ itS a ++ ⟨#[32]⟩ ++ itS b = tx32 n [id, a, b] := by
          rw [show T0 ++ ⟨#[32]⟩ ++ itS a = T0 ++ (⟨#[32]⟩ ++ itS a) from ByteArray.append_assoc, hT0.out, ← hsn.out, ByteArray.append_assoc, ← hsn.out]; rfl
        replace he := Lib.hid he
        clear hFm
        go_wp2_with fail
        refine (ca _).mono ?_
        rintro e w4 ⟨rfl, g4⟩
        have X4 := X3.gr g4
        clear k0 k1 k2 k3
        obtain ⟨k0, k1, k2, k3⟩ := cells4E X4
        go_wp2_with fail
        refine (cb _).mono ?_
        rintro e w5 ⟨rfl, g5⟩
        go_wp2
        go_ret
        exact ⟨congrArg (fun x => Ending.returned (Value.string x)) he.out, (G3.gr g4).gr g5⟩
    · go_simp
      refine (cid _).mono ?_
      rintro e V8 ⟨rfl, g8⟩
      have GF : Bl w1 V8 := (GwA).gr g8
      dsimp only
      refine hK9.out _ _ (SK.out _ GF) (fun _ => ?_)
      clear hK9 K9
      try simp only [Act.put]
      have nV := NwA V8 g8.bl
      refine wpAnyH_ready (rs := [4]) (by kernel_rfl) (by simp) (AllReadyH.cons rfl (fun K9 hK9 => ?_) AllReadyH.nil)
      go_simp
      refine hK9.out _ _ (SK.out _ GF) (fun _ => ?_)
      clear hK9 K9
      try simp only [Act.put]
      refine wpAnyH_take (i := 5) (v := ?_) rfl (by kernel_rfl) (by kernel_rfl) (by kernel_rfl) (fun _ _ _ h => h) (Or.inl ⟨by rfl, ?hy5_5⟩) (by assumption) ?rest5_5
      case hy5_5 => intro w' hSw; (try dsimp only at hSw); go_simp; (try rw [if_neg hz5]); (try with_reducible rfl)
      try simp only [Act.put]
      refine wpAnyH_take (i := 9) (v := ?_) rfl (by kernel_rfl) (by kernel_rfl) (by kernel_rfl) (fun _ _ _ h => h) (Or.inl ⟨by rfl, ?hy9_6⟩) (by assumption) ?rest9_6
      case hy9_6 => intro w' hSw; (try dsimp only at hSw); go_simp; (try rw [if_neg hz9]); (try with_reducible rfl)
      try simp only [Act.put]
      refine wpAnyH_take (i := 10) (v := ?_) rfl (by kernel_rfl) (by kernel_rfl) (by kernel_rfl) (fun _ _ _ h => h) (Or.inl ⟨by rfl, ?hy10_7⟩) (by assumption) ?rest10_7
      case hy10_7 => intro w' hSw; (try dsimp only at hSw); go_simp; (try rw [if_neg hz10]); (try with_reducible rfl)
      try simp only [Act.put]
      refine wpAnyH_done (by kernel_rfl) ?_ _
      have XF := X.bl GF
      have G2 := G.trans GF
      rw [← hone.out]
      have hTz : (tx32 n [id]).size ≤ 29 := by
        rw [hone.out]
        simp only [ByteArray.size_append]
        omega
      obtain ⟨T0, hT0⟩ : ∃ T, T = tx32 n [id] := ⟨_, rfl⟩
      rw [← hT0] at hTz ⊢
      replace hT0 := Lib.hid hT0
      obtain ⟨k0, k1, k2, k3⟩ := cells4E XF
      clear hHeld SK cid hone
      go_wp2_with fail
      refine (cF _).mono ?_
      rintro e w3 ⟨rfl, g3⟩
      have X3 := XF.gr g3
      have G3 := G2.gr g3
      clear k0 k1 k2 k3 XF G2 cF
      obtain ⟨k0, k1, k2, k3⟩ := cells4E X3
      have h3 : m = 0 ∨ m = 1 ∨ m = 2 := by omega
      rcases h3 with rfl | rfl | rfl
      · have hFi : (F.size : Int) = 0 := by omega
        clear hFm
        go_wp2
        go_ret
        exact ⟨by rw [hT0.out]; rfl, G3⟩
      · have hFi : (F.size : Int) = 1 := by omega
        have he : T0 ++ ⟨#[32]⟩ ++ itS a = tx32 n [id, a] := by rw [ByteArray.append_assoc, hT0.out, ← hsn.out]; rfl
        replace he := Lib.hid he
        clear hFm
        go_wp2_with fail
        refine (ca _).mono ?_
        rintro e w4 ⟨rfl, g4⟩
        go_wp2
        go_ret
        exact ⟨congrArg (fun x => Ending.returned (Value.string x)) he.out, G3.gr g4⟩
      · have hFi : (F.size : Int) = 2 := by omega
        have he : T0 ++ ⟨#[32]⟩ ++ itS a ++ ⟨#[32]⟩ ++ itS b = tx32 n [id, a, b] := by
          rw [show T0 ++ ⟨#[32]⟩ ++ itS a = T0 ++ (⟨#[32]⟩ ++ itS a) from ByteArray.append_assoc, hT0.out, ← hsn.out, ByteArray.append_assoc, ← hsn.out]; rfl
        replace he := Lib.hid he
        clear hFm
        go_wp2_with fail
        refine (ca _).mono ?_
        rintro e w4 ⟨rfl, g4⟩
        have X4 := X3.gr g4
        clear k0 k1 k2 k3
        obtain ⟨k0, k1, k2, k3⟩ := cells4E X4
        go_wp2_with fail
        refine (cb _).mono ?_
        rintro e w5 ⟨rfl, g5⟩
        go_wp2
        go_ret
        exact ⟨congrArg (fun x => Ending.returned (Value.string x)) he.out, (G3.gr g4).gr g5⟩
  · go_simp
    refine (cid _).mono ?_
    rintro e V8 ⟨rfl, g8⟩
    have G8 : Bl w1 V8 := ((Bl.refl w1).drew).gr g8
    dsimp only
    refine hK9.out _ _ (SK.out _ G8) (fun _ => ?_)
    clear hK9 K9
    try simp only [Act.put]
    refine wpAnyH_ready (rs := [0]) (by kernel_rfl) (by simp) (AllReadyH.cons rfl (fun K9 hK9 => ?_) AllReadyH.nil)
    go_simp
    have GwB : Bl w1 (V8.alloc (.cells #[.string ⟨#[101, 114, 114, 111, 114]⟩, .string ⟨#[102, 97, 116, 97, 108]⟩, .string ⟨#[114, 101, 108, 101, 97, 115, 101]⟩, .string ⟨#[100, 111, 110, 101]⟩, .string ⟨#[101, 110, 116, 101, 114]⟩, .string ⟨#[108, 101, 97, 118, 101]⟩] 9)) := (G8.alloc _)
    have NwB : ∀ V, Bl (V8.alloc (.cells #[.string ⟨#[101, 114, 114, 111, 114]⟩, .string ⟨#[102, 97, 116, 97, 108]⟩, .string ⟨#[114, 101, 108, 101, 97, 115, 101]⟩, .string ⟨#[100, 111, 110, 101]⟩, .string ⟨#[101, 110, 116, 101, 114]⟩, .string ⟨#[108, 101, 97, 118, 101]⟩] 9)) V → V.cell? ⟨V8.heap.size, n, none⟩ = some (.string N) := fun V g => by
      rw [((At.newAt (w := V8) (n := V8.heap.size) (by simp) enC 9).bl g).cell n, hat]
    generalize (V8.alloc (.cells #[.string ⟨#[101, 114, 114, 111, 114]⟩, .string ⟨#[102, 97, 116, 97, 108]⟩, .string ⟨#[114, 101, 108, 101, 97, 115, 101]⟩, .string ⟨#[100, 111, 110, 101]⟩, .string ⟨#[101, 110, 116, 101, 114]⟩, .string ⟨#[108, 101, 97, 118, 101]⟩] 9)) = wB at *
    have nwB := NwB wB (Bl.refl _)
    refine hK9.out _ _ (SK.out _ GwB) (fun _ => ?_)
    clear hK9 K9
    try simp only [Act.put]
    refine wpAnyH_take (i := 3) (v := ?_) rfl (by kernel_rfl) (by kernel_rfl) (by kernel_rfl) (fun _ _ _ h => h) (Or.inl ⟨by rfl, ?hy3_8⟩) (by assumption) ?rest3_8
    case hy3_8 => intro w' hSw; (try dsimp only at hSw); go_simp; (try rw [if_neg hz3]); (try with_reducible rfl)
    try simp only [Act.put]
    refine wpAnyH_ready (rs := [4]) (by kernel_rfl) (by simp) (AllReadyH.cons rfl (fun K9 hK9 => ?_) AllReadyH.nil)
    go_simp
    refine hK9.out _ _ (SK.out _ GwB) (fun _ => ?_)
    clear hK9 K9
    try simp only [Act.put]
    refine wpAnyH_take (i := 5) (v := ?_) rfl (by kernel_rfl) (by kernel_rfl) (by kernel_rfl) (fun _ _ _ h => h) (Or.inl ⟨by rfl, ?hy5_9⟩) (by assumption) ?rest5_9
    case hy5_9 => intro w' hSw; (try dsimp only at hSw); go_simp; (try rw [if_neg hz5]); (try with_reducible rfl)
    try simp only [Act.put]
    refine wpAnyH_take (i := 9) (v := ?_) rfl (by kernel_rfl) (by kernel_rfl) (by kernel_rfl) (fun _ _ _ h => h) (Or.inl ⟨by rfl, ?hy9_10⟩) (by assumption) ?rest9_10
    case hy9_10 => intro w' hSw; (try dsimp only at hSw); go_simp; (try rw [if_neg hz9]); (try with_reducible rfl)
    try simp only [Act.put]
    refine wpAnyH_take (i := 10) (v := ?_) rfl (by kernel_rfl) (by kernel_rfl) (by kernel_rfl) (fun _ _ _ h => h) (Or.inl ⟨by rfl, ?hy10_11⟩) (by assumption) ?rest10_11
    case hy10_11 => intro w' hSw; (try dsimp only at hSw); go_simp; (try rw [if_neg hz10]); (try with_reducible rfl)
    try simp only [Act.put]
    have GF := GwB
    refine wpAnyH_done (by kernel_rfl) ?_ _
    have XF := X.bl GF
    have G2 := G.trans GF
    rw [← hone.out]
    have hTz : (tx32 n [id]).size ≤ 29 := by
      rw [hone.out]
      simp only [ByteArray.size_append]
      omega
    obtain ⟨T0, hT0⟩ : ∃ T, T = tx32 n [id] := ⟨_, rfl⟩
    rw [← hT0] at hTz ⊢
    replace hT0 := Lib.hid hT0
    obtain ⟨k0, k1, k2, k3⟩ := cells4E XF
    clear hHeld SK cid hone
    go_wp2_with fail
    refine (cF _).mono ?_
    rintro e w3 ⟨rfl, g3⟩
    have X3 := XF.gr g3
    have G3 := G2.gr g3
    clear k0 k1 k2 k3 XF G2 cF
    obtain ⟨k0, k1, k2, k3⟩ := cells4E X3
    have h3 : m = 0 ∨ m = 1 ∨ m = 2 := by omega
    rcases h3 with rfl | rfl | rfl
    · have hFi : (F.size : Int) = 0 := by omega
      clear hFm
      go_wp2
      go_ret
      exact ⟨by rw [hT0.out]; rfl, G3⟩
    · have hFi : (F.size : Int) = 1 := by omega
      have he : T0 ++ ⟨#[32]⟩ ++ itS a = tx32 n [id, a] := by rw [ByteArray.append_assoc, hT0.out, ← hsn.out]; rfl
      replace he := Lib.hid he
      clear hFm
      go_wp2_with fail
      refine (ca _).mono ?_
      rintro e w4 ⟨rfl, g4⟩
      go_wp2
      go_ret
      exact ⟨congrArg (fun x => Ending.returned (Value.string x)) he.out, G3.gr g4⟩
    · have hFi : (F.size : Int) = 2 := by omega
      have he : T0 ++ ⟨#[32]⟩ ++ itS a ++ ⟨#[32]⟩ ++ itS b = tx32 n [id, a, b] := by
        rw [show T0 ++ ⟨#[32]⟩ ++ itS a = T0 ++ (⟨#[32]⟩ ++ itS a) from ByteArray.append_assoc, hT0.out, ← hsn.out, ByteArray.append_assoc, ← hsn.out]; rfl
      replace he := Lib.hid he
      clear hFm
      go_wp2_with fail
      refine (ca _).mono ?_
      rintro e w4 ⟨rfl, g4⟩
      have X4 := X3.gr g4
      clear k0 k1 k2 k3
      obtain ⟨k0, k1, k2, k3⟩ := cells4E X4
      go_wp2_with fail
      refine (cb _).mono ?_
      rintro e w5 ⟨rfl, g5⟩
      go_wp2
      go_ret
      exact ⟨congrArg (fun x => Ending.returned (Value.string x)) he.out, (G3.gr g4).gr g5⟩
theorem reShow (e : Ev) (hi : I64e e) (w : World) : Calls Tryd.prog 39 #[vE e] w (fun x w' => x = .returned (.string (shS e)) ∧ Bl w w') := by
  by_cases h : 0 ≤ e.k ∧ e.k ≤ 5
  · exact reShow1 e e.k.toNat (by omega) (by omega) hi w
  · exact reShow0 e w h

end Go.Proofs.YthkbenhlhldglaaDoor
