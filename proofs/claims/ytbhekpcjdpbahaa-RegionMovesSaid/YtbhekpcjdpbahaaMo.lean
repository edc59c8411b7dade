/-
  What is proved: a region that is moved, or scaled, is a region; areas of scaled ones.
-/
import Derived.Test.YtbhekpcjdpbahaaEa
import Derived.Test.YtbhekpcjdpbahaaAa
namespace Go.Proofs.Ytbhekpcjdpbahaa
open Go.RowKit Go.Sort

/-- What Area asks of a list of larger rectangles. -/
def SmW (L : List Rc) : Prop := ∀ r ∈ L, mayB r.a r.b r.c r.d = true ∧ 0 ≤ areaRc r ∧ areaRc r ≤ 130000
theorem smw_take {L : List Rc} (h : SmW L) : ∀ k : Nat, 0 ≤ areaL (L.take k) ∧ areaL (L.take k) ≤ 130000 * k
  | 0 => by simp [areaL]
  | k + 1 => by
    obtain ⟨i1, i2⟩ := smw_take h k
    by_cases hk : k < L.length
    · obtain ⟨r, hr⟩ := list_at hk
      obtain ⟨_, h2, h3⟩ := h r (List.mem_of_getElem? hr)
      rw [take_more hr, areaL_app]
      show 0 ≤ _ + (areaRc r + 0) ∧ _ + (areaRc r + 0) ≤ _
      omega
    · rw [List.take_of_length_le (by omega)] at *
      omega

set_option maxHeartbeats 4000000 in
theorem areaRW (A : Option Addr) (c : Nat) (L : List Rc) (w : World) (hA : Rs w A L) (hs : SmW L) (hl : L.length ≤ 1000000) :
    Calls Try.prog 45 #[.slice A L.length c] w (Rt w (.int .i64 (areaL L))) := by
  go_enter Try.func45, Try.ntmps45
  go_wp2
  go_loopw [3, 8] (fun v i wr => ∃ (k : Nat) (s : Int), k ≤ L.length ∧ v = .int .i64 s ∧ i = .int .i64 k ∧ Hid (s = areaL (L.take k)) ∧ 0 ≤ s ∧ s ≤ 130000 * k ∧ Gr w wr) (fun _ i _ => L.length - (intOf i).toNat)
  case atStart => exact ⟨0, 0, Nat.zero_le _, rfl, rfl, Lib.hid rfl, by omega, by omega, Gr.refl w⟩
  case round =>
    obtain ⟨k, s, hk, rfl, rfl, hS, s1, s2, G⟩ := hrel
    by_cases hlt : k < L.length
    · obtain ⟨⟨ra, rb, rc, rd⟩, hr⟩ := list_at hlt
      obtain ⟨b, off, rfl, hrow⟩ := hA.opened (by omega)
      obtain ⟨e1, e2, e3, e4⟩ := (hrow.bl G.bl) k _ hr
      dsimp only at e1 e2 e3 e4
      obtain ⟨m1, m2, m3⟩ := hs _ (List.mem_of_getElem? hr)
      have c1 := fun w => area1 ra rb rc rd w m1
      have hx : ∃ z, z = areaI ra rb rc rd ∧ 0 ≤ z ∧ z ≤ 130000 := ⟨_, rfl, m2, m3⟩
      obtain ⟨z, hz, z1, z2⟩ := hx
      rw [← hz] at c1
      have hS' : Hid (s + z = areaL (L.take (k + 1))) := Lib.hid (by rw [take_more hr, areaL_app, ← hS.out, hz]; show _ = s + (areaRc _ + 0); rw [Int.add_zero]; rfl)
      have lb := World.block_lt_of_cell? _ _ e1
      clear hr m1 m2 m3 hz
      go_wp2_with fail
      refine (c1 _).mono ?_
      rintro e W1 ⟨rfl, g1⟩
      have G1 := (G.alloc (.cells #[.int .i64 ra, .int .i64 rb, .int .i64 rc, .int .i64 rd] 23)).trans g1
      clear e1 e2 e3 e4 lb g1
      go_wp2
      go_roundw
      case rel => exact ⟨k + 1, s + z, by omega, rfl, by go_num, hS', by omega, by omega, G1⟩
      case measure => simp [intOf]; omega
    · obtain rfl : k = L.length := by omega
      go_wp2
      go_ret
      exact ⟨by rw [hS.out, List.take_length]; rfl, G⟩

/-- So many times, and moved. -/
def afR (s x y : Int) (r : Rc) : Rc := ⟨s * r.a + x, s * r.b + y, s * r.c + x, s * r.d + y⟩
def afB (s x y : Int) (b : Bn) : Bn := ⟨s * b.y0 + y, s * b.y1 + y, b.E.map fun t => s * t + x⟩
theorem bandE_af (s x y y0 y1 : Int) : ∀ E : List Int, bandE (s * y0 + y) (s * y1 + y) (E.map fun t => s * t + x) = (bandE y0 y1 E).map (afR s x y)
  | [] => rfl
  | [a] => rfl
  | a :: b :: E => by
    show _ :: bandE _ _ _ = _ :: _
    rw [bandE_af s x y y0 y1 E]
    rfl
theorem rectsL_af (s x y : Int) : ∀ B : List Bn, rectsL (B.map (afB s x y)) = (rectsL B).map (afR s x y)
  | [] => rfl
  | b :: l => by
    show bandE _ _ _ ++ rectsL (l.map (afB s x y)) = (bandE b.y0 b.y1 b.E ++ rectsL l).map (afR s x y)
    rw [rectsL_af s x y l, List.map_append]
    congr 1
    exact bandE_af s x y b.y0 b.y1 b.E
theorem af_lt {s x a b : Int} (hs : 1 ≤ s) (h : a < b) : s * a + x < s * b + x := by
  have := Int.mul_lt_mul_of_pos_left h (show 0 < s by omega)
  omega
theorem af_le {s x a b : Int} (hs : 1 ≤ s) (h : a ≤ b) : s * a + x ≤ s * b + x := by
  have := Int.mul_le_mul_of_nonneg_left h (show 0 ≤ s by omega)
  omega
theorem af_inj {s x a b : Int} (hs : 1 ≤ s) (h : s * a + x = s * b + x) : a = b := by
  rcases Int.lt_trichotomy a b with hl | hl | hl
  · have := af_lt (x := x) hs hl; omega
  · exact hl
  · have := af_lt (x := x) hs hl; omega
theorem map_inj {f : Int → Int} (hf : ∀ a b, f a = f b → a = b) : ∀ E F : List Int, E.map f = F.map f → E = F
  | [], [], _ => rfl
  | [], _ :: _, h => by simp at h
  | _ :: _, [], h => by simp at h
  | a :: E, b :: F, h => by
    simp only [List.map_cons, List.cons.injEq] at h
    rw [hf a b h.1, map_inj hf E F h.2]
theorem reg_af {s : Int} (hs : 1 ≤ s) (x y : Int) {L : List Rc} (h : IsReg L) : IsReg (L.map (afR s x y)) := by
  obtain ⟨B, hB, rfl⟩ := h
  refine ⟨B.map (afB s x y), ⟨⟨fun b hb => ?_, ?_⟩, fun b hb => ?_⟩, (rectsL_af s x y B).symm⟩
  · rw [List.mem_map] at hb
    obtain ⟨t, ht, rfl⟩ := hb
    obtain ⟨o1, o2, o3⟩ := hB.ok t ht
    refine ⟨af_lt hs o1, ?_, by show (t.E.map _).length % 2 = 0; rw [List.length_map]; exact o3⟩
    unfold Inc
    show (t.E.map _).Pairwise _
    rw [List.pairwise_map]
    exact List.Pairwise.imp (fun hab => af_lt hs hab) o2
  · rw [List.pairwise_map]
    refine List.Pairwise.imp (fun {b b'} hbb => ?_) hB.seq
    refine ⟨af_le hs hbb.1, fun hh => hbb.2 ⟨af_inj hs hh.1, map_inj (fun a c e => af_inj hs e) _ _ hh.2⟩⟩
  · rw [List.mem_map] at hb
    obtain ⟨t, ht, rfl⟩ := hb
    show t.E.map _ ≠ []
    intro he
    exact hB.full t ht (List.map_eq_nil_iff.1 he)
theorem area_sc (m : Int) (r : Rc) : areaRc (afR m 0 0 r) = m * m * areaRc r := by
  unfold areaRc afR
  simp only [Int.add_zero]
  rw [← Int.mul_sub, ← Int.mul_sub]
  simp only [Int.mul_assoc, Int.mul_left_comm]
theorem areaL_sc (m : Int) : ∀ L : List Rc, areaL (L.map (afR m 0 0)) = m * m * areaL L
  | [] => by show (0 : Int) = m * m * 0; rw [Int.mul_zero]
  | r :: l => by
    show areaRc (afR m 0 0 r) + areaL (l.map (afR m 0 0)) = m * m * (areaRc r + areaL l)
    rw [areaL_sc m l, area_sc, Int.mul_add]
theorem mv_af {x y : Int} {r : Rc} (h : mvE x y r = 0) : mvF x y r = afR 1 x y r := by
  unfold mvE moveE at h
  unfold mvF moveR afR
  split at h
  · rename_i hb; rw [if_pos hb]; simp only [Int.one_mul]
  · omega
theorem sc_af {m : Int} {r : Rc} (h1 : 1 ≤ m) (h8 : m ≤ 8) (h : scE m r = 0) : scF m r = afR m 0 0 r ∧ mayB (m * r.a) (m * r.b) (m * r.c) (m * r.d) = true := by
  have hn : ¬ (m < 1 ∨ 8 < m) := by omega
  unfold scE scaleE at h
  unfold scF scaleR afR
  rw [if_neg hn] at h
  rw [if_neg hn]
  split at h
  · rename_i hb
    rw [if_pos hb]
    unfold scaleB at hb
    simp only [Bool.and_eq_true] at hb
    simp only [Int.add_zero]
    exact ⟨trivial, hb.2⟩
  · omega
theorem map_eq_of {F G : Rc → Rc} {P : Rc → Int} {L : List Rc} (h : ∀ (j : Nat) (q : Rc), j < L.length → L[j]? = some q → P q = 0) (k : ∀ r, P r = 0 → F r = G r) : L.map F = L.map G := by
  refine List.map_congr_left fun r hr => k r ?_
  obtain ⟨j, hj, e⟩ := List.getElem_of_mem hr
  exact h j r hj (by rw [List.getElem?_eq_getElem hj, e])
theorem mv_reg {x y : Int} {L R : List Rc} {z : Int} (h : EQ (mvF x y) (mvE x y) L R z) (hL : IsReg L) : IsReg R := by
  rcases h with ⟨_, _, _, _, _, _, rfl⟩ | ⟨h1, rfl, _⟩
  · exact ⟨[], ⟨Wk.nil, by simp⟩, rfl⟩
  · rw [map_eq_of h1 (fun r => mv_af)]
    exact reg_af (Int.le_refl _) x y hL
theorem sc_reg {m : Int} (h1 : 1 ≤ m) (h8 : m ≤ 8) {L R : List Rc} {z : Int} (h : EQ (scF m) (scE m) L R z) (hL : IsReg L) : IsReg R := by
  rcases h with ⟨_, _, _, _, _, _, rfl⟩ | ⟨k1, rfl, _⟩
  · exact ⟨[], ⟨Wk.nil, by simp⟩, rfl⟩
  · rw [map_eq_of k1 (fun r hr => (sc_af h1 h8 hr).1)]
    exact reg_af h1 0 0 hL
theorem sc_area {m : Int} (h1 : 1 ≤ m) (h8 : m ≤ 8) {L R : List Rc} (h : EQ (scF m) (scE m) L R 0) (hs : Sm L) : areaL R = m * m * areaL L ∧ SmW R := by
  rcases h with ⟨_, _, _, _, _, h0, _⟩ | ⟨k1, rfl, _⟩
  · exact absurd rfl h0
  · rw [map_eq_of k1 (fun r hr => (sc_af h1 h8 hr).1)]
    refine ⟨areaL_sc m L, fun r hr => ?_⟩
    rw [List.mem_map] at hr
    obtain ⟨t, ht, rfl⟩ := hr
    obtain ⟨j, hj, e⟩ := List.getElem_of_mem ht
    have hz := k1 j t hj (by rw [List.getElem?_eq_getElem hj, e])
    have hm := (sc_af h1 h8 hz).2
    obtain ⟨_, a1, a2⟩ := hs t ht
    have hmm : 0 ≤ m * m ∧ m * m ≤ 64 := ⟨Int.mul_nonneg (by omega) (by omega), Int.le_trans (Int.mul_le_mul h8 h8 (by omega) (by omega)) (by omega)⟩
    refine ⟨by unfold afR; simp only [Int.add_zero]; exact hm, by rw [area_sc]; exact Int.mul_nonneg hmm.1 a1, ?_⟩
    rw [area_sc]
    calc m * m * areaRc t ≤ 64 * areaRc t := Int.mul_le_mul_of_nonneg_right hmm.2 a1
      _ ≤ 64 * 2000 := Int.mul_le_mul_of_nonneg_left a2 (by omega)
      _ ≤ 130000 := by omega

end Go.Proofs.Ytbhekpcjdpbahaa
