/-
  What is proved: what add of package args, and put of the document's, hand back of an argument of every kind and a letter. No conditions but bounds.
-/
import Derived.Test.YthkbenhlhldglaaDoorMc
namespace Go.Proofs.YthkbenhlhldglaaDoor
open Go.RowKit Go.Sort

attribute [local go_sem ↓] ta_int_int ta_int_string ta_int_rect ta_int_bytes ta_string_int ta_string_string ta_string_rect ta_string_bytes ta_rect_int ta_rect_string ta_rect_rect ta_rect_bytes ta_bytes_int ta_bytes_string ta_bytes_rect ta_bytes_bytes ta_bool_int ta_bool_string ta_bool_rect ta_bool_bytes

/-- Bytes were added to a row that a call owns. -/
def AddQ (w : World) (B : Nat) (M : List Int) (e : Ending) (w' : World) : Prop := ∃ A' c', e = .returned (.tuple #[.slice A' M.length c', .bool true]) ∧ OwB w' B A' c' M ∧ (∀ w0 : World, w0.heap.size ≤ B → Bl w0 w → Bl w0 w')
def NoQ (w : World) (e : Ending) (w' : World) : Prop := e = .returned (.tuple #[.slice none 0 0, .bool false]) ∧ Bl w w'
theorem keep_bl {w w1 : World} {B : Nat} (h : Bl w w1) : ∀ w0 : World, w0.heap.size ≤ B → Bl w0 w → Bl w0 w1 := fun _ _ g => g.trans h

set_option maxRecDepth 100000 in
set_option maxHeartbeats 4000000 in
theorem addI (n : Int) (h : smallB n = true) (A0 : Option Addr) (c0 : Nat) (L : List Int) (B : Nat) (w : World) (hB : B ≤ w.heap.size) (hlen : L.length ≤ 900000) (own0 : OwB w B A0 c0 L) :
    Calls Tryd.prog 81 #[.slice A0 L.length c0, .int .u8 105, .iface 3 (.int .i64 n)] w (AddQ w B (L ++ d4 n)) := by
  have hs := (smallB_iff n).1 h
  have G1 : Bl w (w.alloc (.cells #[.int .i64 n] 3)) := (Bl.refl w).alloc _
  have c1 := signed1 n w.heap.size _ (At.new w #[.int .i64 n] 3)
  rw [h] at c1
  have hh := Lib.hid h
  clear h
  obtain ⟨W1, hW1⟩ : ∃ W, W = w.alloc (.cells #[.int .i64 n] 3) := ⟨_, rfl⟩
  rw [← hW1] at c1 G1
  go_enter Tryd.func81, Tryd.ntmps81
  go_wp2_with fail
  rw [← hW1]
  refine c1.mono ?_
  rintro e w2 ⟨rfl, g2⟩
  have G2 := G1.gr g2
  have own2 := own0.bl (G2.alloc (.cells #[.int .i64 n] 3))
  have c2 := words1 n (by have := hs.1; omega) (by have := hs.2; omega) A0 c0 L B w2.heap.size _ (by have := G2.size; simp; omega) (by omega) own2 (At.new w2 #[.int .i64 n] 3)
  clear hW1
  go_wp2_with fail
  refine c2.mono ?_
  rintro e w3 ⟨A3, c3, rfl, own3, keep3⟩
  go_wp2
  go_ret2
  exact ⟨A3, c3, by simp, own3, fun w0 hb g => keep3 w0 hb ((g.trans G2).alloc _)⟩

set_option maxRecDepth 100000 in
set_option maxHeartbeats 4000000 in
theorem addU (n : Int) (h0 : 0 ≤ n) (h1 : n ≤ 4294967295) (A0 : Option Addr) (c0 : Nat) (L : List Int) (B : Nat) (w : World) (hB : B ≤ w.heap.size) (hlen : L.length ≤ 900000) (own0 : OwB w B A0 c0 L) :
    Calls Tryd.prog 81 #[.slice A0 L.length c0, .int .u8 117, .iface 3 (.int .i64 n)] w (AddQ w B (L ++ d4 n)) := by
  have own2 := own0.bl ((Bl.refl w).alloc (.cells #[.int .i64 n] 3))
  have c1 := fun V => unsigned1 n V
  rw [decT h0, decT h1] at c1
  have G0 := Lib.hid (Bl.refl w)
  go_enter Tryd.func81, Tryd.ntmps81
  go_wp2_with fail
  refine (c1 _).mono ?_
  rintro e w2 ⟨rfl, g2⟩
  have G2 := g2.bl
  have own2 := own0.bl (G2.alloc (.cells #[.int .i64 n] 3))
  have c2 := words1 n (by omega) h1 A0 c0 L B w2.heap.size _ (by have := G2.size; simp; omega) (by omega) own2 (At.new w2 #[.int .i64 n] 3)
  go_wp2_with fail
  refine c2.mono ?_
  rintro e w3 ⟨A3, c3, rfl, own3, keep3⟩
  go_wp2
  go_ret2
  exact ⟨A3, c3, by simp, own3, fun w0 hb g => keep3 w0 hb ((g.trans G2).alloc _)⟩

set_option maxRecDepth 100000 in
set_option maxHeartbeats 4000000 in
theorem addS (s : ByteArray) (h : s.size ≤ 255) (A0 : Option Addr) (c0 : Nat) (L : List Int) (B : Nat) (w : World) (hB : B ≤ w.heap.size) (hlen : L.length ≤ 900000) (own0 : OwB w B A0 c0 L) :
    Calls Tryd.prog 81 #[.slice A0 L.length c0, .int .u8 115, .iface 9 (.string s)] w (AddQ w B (L ++ ((s.size : Int) :: tb s))) := by
  have hm : (s.size : Int) % 256 = s.size := by omega
  have hle : (s.size : Int) ≤ 255 := by omega
  have o0 := own0.bl ((Bl.refl w).alloc (.cells #[.int .u8 (s.size : Int)] 5))
  have hz : B ≤ (w.alloc (.cells #[.int .u8 (s.size : Int)] 5)).heap.size := by simp; omega
  have G1 : Bl w (w.alloc (.cells #[.int .u8 (s.size : Int)] 5)) := (Bl.refl w).alloc _
  go_enter Tryd.func81, Tryd.ntmps81
  go_wp2_with (first | (at_builtin; refine wp_app_b rfl (.tmp 45) (.tmp 49) rfl A0 c0 L rfl B o0 (some ⟨w.heap.size, 0, none⟩) [(s.size : Int)] 1 rfl (by simp) (RwB.blk (L := [(s.size : Int)]) (At.new w _ _)) (by simp; omega) hz ?_; intro A1 c1 w1 own1 by1 _; have hz1 : B ≤ w1.heap.size := (by have := by1.size; omega)) | (at_builtin; refine wp_app_s rfl (.tmp 50) (.tmp 51) rfl A1 c1 (L ++ [(s.size : Int)]) (by rw [List.length_append]; rfl) B own1 s rfl (by simp; omega) hz1 ?_; intro A2 c2 w2 own2 by2))
  go_ret2
  exact ⟨A2, c2, by simp [tb_len]; omega, by simpa using own2, fun w0 hb g => app_bl by2 (app_bl by1 (g.trans G1) o0.lies hb) own1.lies hb⟩

set_option maxRecDepth 100000 in
set_option maxHeartbeats 4000000 in
theorem addR (x0 y0 x1 y1 : Int) (h0 : smallB x0 = true) (h1 : smallB y0 = true) (h2 : smallB x1 = true) (h3 : smallB y1 = true) (A0 : Option Addr) (c0 : Nat) (L : List Int) (B : Nat) (w : World) (hB : B ≤ w.heap.size) (hlen : L.length ≤ 900000) (own0 : OwB w B A0 c0 L) :
    Calls Tryd.prog 81 #[.slice A0 L.length c0, .int .u8 114, .iface 26 (.agg #[.int .i64 x0, .int .i64 y0, .int .i64 x1, .int .i64 y1])] w (AddQ w B (L ++ d4 x0 ++ d4 y0 ++ d4 x1 ++ d4 y1)) := by
  have s0 := (smallB_iff _).1 h0
  have s1 := (smallB_iff _).1 h1
  have s2 := (smallB_iff _).1 h2
  have s3 := (smallB_iff _).1 h3
  have c1 := signed4 x0 y0 x1 y1 (w.heap.size + 1) _ (At.newAt (w := w.alloc (.cells #[.int .i64 x0, .int .i64 y0, .int .i64 x1, .int .i64 y1] 26)) (n := w.heap.size + 1) (by simp) #[.int .i64 x0, .int .i64 y0, .int .i64 x1, .int .i64 y1] 3)
  rw [h0, h1, h2, h3] at c1
  simp only [Bool.and_true] at c1
  have a1 := (At.new w #[.int .i64 x0, .int .i64 y0, .int .i64 x1, .int .i64 y1] 26).alloc (.cells #[.int .i64 x0, .int .i64 y0, .int .i64 x1, .int .i64 y1] 3)
  have G1 : Bl w ((w.alloc (.cells #[.int .i64 x0, .int .i64 y0, .int .i64 x1, .int .i64 y1] 26)).alloc (.cells #[.int .i64 x0, .int .i64 y0, .int .i64 x1, .int .i64 y1] 3)) := ((Bl.refl w).alloc _).alloc _
  have hlo := ow_lies own0
  replace h0 := Lib.hid h0
  replace h1 := Lib.hid h1
  replace h2 := Lib.hid h2
  replace h3 := Lib.hid h3
  replace s0 := Lib.hid s0
  replace s1 := Lib.hid s1
  replace s2 := Lib.hid s2
  replace s3 := Lib.hid s3
  replace a1 := Lib.hid a1
  replace hlo := Lib.hid hlo
  go_enter Tryd.func81, Tryd.ntmps81
  go_wp2_with fail
  refine c1.mono ?_
  rintro e w2 ⟨rfl, g2⟩
  have a2 := a1.out.gr g2
  have G2 := G1.gr g2
  obtain ⟨q0, q1, q2, q3⟩ := cells4 a2
  obtain ⟨p, hp⟩ : ∃ p, p = w.heap.size := ⟨_, rfl⟩
  rw [← hp] at q0 q1 q2 q3 ⊢
  have own2 := own0.bl (G2.alloc (.cells #[.int .i64 x0, .int .i64 y0, .int .i64 x1, .int .i64 y1] 3))
  have z2 := G2.size
  have c2 := words4 x0 y0 x1 y1 s0.out.1 (by have := s0.out.2; omega) s1.out.1 (by have := s1.out.2; omega) s2.out.1 (by have := s2.out.2; omega) s3.out.1 (by have := s3.out.2; omega) A0 c0 L B w2.heap.size _ (by simp; omega) (by omega) own2 (At.new w2 #[.int .i64 x0, .int .i64 y0, .int .i64 x1, .int .i64 y1] 3) (by
    rcases hlo.out with h | ⟨g, h, _, h'⟩
    · rw [h]; simp
    · rw [h]; simp; omega)
  replace hp := Lib.hid hp
  replace c2 := Lib.hid c2
  clear a1 a2 g2 c1 own2
  go_wp2_with fail
  refine c2.out.mono ?_
  rintro e w3 ⟨A3, c3, rfl, own3, keep3⟩
  go_wp2
  go_ret2
  exact ⟨A3, c3, by simp, own3, fun w0 hb g => keep3 w0 hb ((g.trans G2).alloc _)⟩

set_option maxRecDepth 100000 in
set_option maxHeartbeats 4000000 in
theorem addB (A1 : Option Addr) (c1 : Nat) (M : List Int) (hn : A1 = none → c1 = 0) (hl : M.length ≤ 4096) (A0 : Option Addr) (c0 : Nat) (L : List Int) (B : Nat) (w : World) (hB : B ≤ w.heap.size) (hlen : L.length ≤ 900000) (own0 : OwB w B A0 c0 L) (hA : RwB w A1 M) :
    Calls Tryd.prog 81 #[.slice A0 L.length c0, .int .u8 98, .iface 22 (.slice A1 M.length c1)] w (AddQ w B (L ++ M)) := by
  have hle : (M.length : Int) ≤ 4096 := by omega
  obtain ⟨m, hm⟩ : ∃ m, m = M.length := ⟨_, rfl⟩
  rw [← hm] at hle ⊢
  replace hm := Lib.hid hm
  go_enter Tryd.func81, Tryd.ntmps81
  go_wp2_with (at_builtin; refine wp_app_b rfl (.tmp 91) (.tmp 92) rfl A0 c0 L rfl B own0 A1 M c1 (by rw [← hm.out]; rfl) hn hA (by omega) hB ?_; intro A2 c2 w2 own2 by2 _)
  go_ret2
  exact ⟨A2, c2, by simp, own2, fun w0 hb g => app_bl by2 g own0.lies hb⟩

set_option maxRecDepth 100000 in
set_option maxHeartbeats 4000000 in
theorem noI1 (n : Int) (A0 : Option Addr) (n0 c0 : Nat) (w : World) (h : smallB n = false) :
    Calls Tryd.prog 81 #[.slice A0 n0 c0, .int .u8 105, .iface 3 (.int .i64 n)] w (NoQ w) := by
  have c1 := signed1 n w.heap.size _ (At.new w #[.int .i64 n] 3)
  rw [h] at c1
  replace h := Lib.hid h
  go_enter Tryd.func81, Tryd.ntmps81
  go_wp2_with fail
  refine c1.mono ?_
  rintro e w2 ⟨rfl, g2⟩
  go_wp2
  go_ret2
  exact ⟨rfl, ((Bl.refl w).alloc _).gr g2⟩

set_option maxRecDepth 100000 in
set_option maxHeartbeats 4000000 in
theorem noI2 (n : Int) (A0 : Option Addr) (n0 c0 : Nat) (w : World) (h : ¬ (0 ≤ n ∧ n ≤ 4294967295)) :
    Calls Tryd.prog 81 #[.slice A0 n0 c0, .int .u8 117, .iface 3 (.int .i64 n)] w (NoQ w) := by
  have c1 := fun V => unsigned1 n V
  have e : (decide (0 ≤ n) && decide (n ≤ 4294967295)) = false := by
    cases hd : (decide (0 ≤ n) && decide (n ≤ 4294967295)) with
    | false => rfl
    | true => rw [Bool.and_eq_true, decide_eq_true_iff, decide_eq_true_iff] at hd; exact absurd hd h
  rw [e] at c1
  clear e h
  go_enter Tryd.func81, Tryd.ntmps81
  go_wp2_with fail
  refine (c1 _).mono ?_
  rintro e w2 ⟨rfl, g2⟩
  go_wp2
  go_ret2
  exact ⟨rfl, (Bl.refl w).gr g2⟩

set_option maxRecDepth 100000 in
set_option maxHeartbeats 4000000 in
theorem noI3 (n : Int) (x : Nat) (A0 : Option Addr) (n0 c0 : Nat) (w : World) (h1 : ¬ (x : Int) = 105) (h2 : ¬ (x : Int) = 117) :
    Calls Tryd.prog 81 #[.slice A0 n0 c0, .int .u8 x, .iface 3 (.int .i64 n)] w (NoQ w) := by
  go_enter Tryd.func81, Tryd.ntmps81
  go_wp2
  go_ret2
  exact ⟨rfl, Bl.refl w⟩

set_option maxRecDepth 100000 in
set_option maxHeartbeats 4000000 in
theorem noS1 (s : ByteArray) (A0 : Option Addr) (n0 c0 : Nat) (w : World) (h : ¬ s.size ≤ 255) :
    Calls Tryd.prog 81 #[.slice A0 n0 c0, .int .u8 115, .iface 9 (.string s)] w (NoQ w) := by
  have h' : ¬ (s.size : Int) ≤ 255 := by omega
  go_enter Tryd.func81, Tryd.ntmps81
  go_wp2
  go_ret2
  exact ⟨rfl, Bl.refl w⟩

set_option maxRecDepth 100000 in
set_option maxHeartbeats 4000000 in
theorem noS2 (s : ByteArray) (x : Nat) (A0 : Option Addr) (n0 c0 : Nat) (w : World) (h1 : ¬ (x : Int) = 115) :
    Calls Tryd.prog 81 #[.slice A0 n0 c0, .int .u8 x, .iface 9 (.string s)] w (NoQ w) := by
  go_enter Tryd.func81, Tryd.ntmps81
  go_wp2
  go_ret2
  exact ⟨rfl, Bl.refl w⟩

set_option maxRecDepth 100000 in
set_option maxHeartbeats 4000000 in
theorem noR1 (x0 y0 x1 y1 : Int) (A0 : Option Addr) (n0 c0 : Nat) (w : World) (h : (smallB x0 && (smallB y0 && (smallB x1 && smallB y1))) = false) :
    Calls Tryd.prog 81 #[.slice A0 n0 c0, .int .u8 114, .iface 26 (.agg #[.int .i64 x0, .int .i64 y0, .int .i64 x1, .int .i64 y1])] w (NoQ w) := by
  have c1 := signed4 x0 y0 x1 y1 (w.heap.size + 1) _ (At.newAt (w := w.alloc (.cells #[.int .i64 x0, .int .i64 y0, .int .i64 x1, .int .i64 y1] 26)) (n := w.heap.size + 1) (by simp) #[.int .i64 x0, .int .i64 y0, .int .i64 x1, .int .i64 y1] 3)
  rw [h] at c1
  replace h := Lib.hid h
  go_enter Tryd.func81, Tryd.ntmps81
  go_wp2_with fail
  refine c1.mono ?_
  rintro e w2 ⟨rfl, g2⟩
  go_wp2
  go_ret2
  exact ⟨rfl, (((Bl.refl w).alloc _).alloc _).gr g2⟩

set_option maxRecDepth 100000 in
set_option maxHeartbeats 4000000 in
theorem noR2 (x0 y0 x1 y1 : Int) (x : Nat) (A0 : Option Addr) (n0 c0 : Nat) (w : World) (h1 : ¬ (x : Int) = 114) :
    Calls Tryd.prog 81 #[.slice A0 n0 c0, .int .u8 x, .iface 26 (.agg #[.int .i64 x0, .int .i64 y0, .int .i64 x1, .int .i64 y1])] w (NoQ w) := by
  go_enter Tryd.func81, Tryd.ntmps81
  go_wp2
  go_ret2
  exact ⟨rfl, (Bl.refl w).alloc _⟩

set_option maxRecDepth 100000 in
set_option maxHeartbeats 4000000 in
theorem noB1 (A1 : Option Addr) (m c1 : Nat) (A0 : Option Addr) (n0 c0 : Nat) (w : World) (h : ¬ (m : Int) ≤ 4096) :
    Calls Tryd.prog 81 #[.slice A0 n0 c0, .int .u8 98, .iface 22 (.slice A1 m c1)] w (NoQ w) := by
  go_enter Tryd.func81, Tryd.ntmps81
  go_wp2
  go_ret2
  exact ⟨rfl, Bl.refl w⟩

set_option maxRecDepth 100000 in
set_option maxHeartbeats 4000000 in
theorem noB2 (v : Value) (x : Nat) (A0 : Option Addr) (n0 c0 : Nat) (w : World) (h1 : ¬ (x : Int) = 98) :
    Calls Tryd.prog 81 #[.slice A0 n0 c0, .int .u8 x, .iface 22 v] w (NoQ w) := by
  go_enter Tryd.func81, Tryd.ntmps81
  go_wp2
  go_ret2
  exact ⟨rfl, Bl.refl w⟩

set_option maxRecDepth 100000 in
set_option maxHeartbeats 4000000 in
theorem noT (b : Bool) (x : Nat) (A0 : Option Addr) (n0 c0 : Nat) (w : World) :
    Calls Tryd.prog 81 #[.slice A0 n0 c0, .int .u8 x, .iface 4 (.bool b)] w (NoQ w) := by
  go_enter Tryd.func81, Tryd.ntmps81
  go_wp2
  go_ret2
  exact ⟨rfl, Bl.refl w⟩

theorem ne_of {c k : UInt8} (h : c ≠ k) : ¬ ((c.toNat : Int) = k.toNat) := fun e => h (UInt8.toNat_inj.1 (by omega))
/-- An argument that may be: its bytes are added. -/
theorem add1 (a : Av) (c : UInt8) (v : Value) (bs : List Int) (A0 : Option Addr) (c0 : Nat) (L : List Int) (B : Nat) (w : World) (hB : B ≤ w.heap.size) (hlen : L.length ≤ 900000) (own0 : OwB w B A0 c0 L) (hv : IsA w v a) (hp : put c a = some bs) :
    Calls Tryd.prog 81 #[.slice A0 L.length c0, .int .u8 c.toNat, v] w (AddQ w B (L ++ bs)) := by
  unfold put at hp
  by_cases h1 : c = 105
  · subst h1
    rw [if_pos rfl] at hp
    split at hp
    · rename_i h
      obtain ⟨hk, hs⟩ := h
      cases hp
      rcases hv with ⟨_, rfl⟩ | ⟨hk', _⟩ | ⟨hk', _⟩ | ⟨hk', _⟩ | ⟨⟨hk', _⟩, _⟩
      · exact addI a.n hs A0 c0 L B w hB hlen own0
      · omega
      · omega
      · omega
      · exact absurd hk hk'
    · cases hp
  · rw [if_neg h1] at hp
    by_cases h2 : c = 117
    · subst h2
      rw [if_pos rfl] at hp
      split at hp
      · rename_i h
        obtain ⟨hk, hs0, hs1⟩ := h
        cases hp
        rcases hv with ⟨_, rfl⟩ | ⟨hk', _⟩ | ⟨hk', _⟩ | ⟨hk', _⟩ | ⟨⟨hk', _⟩, _⟩
        · exact addU a.n hs0 hs1 A0 c0 L B w hB hlen own0
        · omega
        · omega
        · omega
        · exact absurd hk hk'
      · cases hp
    · rw [if_neg h2] at hp
      by_cases h3 : c = 115
      · subst h3
        rw [if_pos rfl] at hp
        split at hp
        · rename_i h
          obtain ⟨hk, hs⟩ := h
          cases hp
          rcases hv with ⟨hk', _⟩ | ⟨_, rfl⟩ | ⟨hk', _⟩ | ⟨hk', _⟩ | ⟨⟨_, hk', _⟩, _⟩
          · omega
          · exact addS a.s hs A0 c0 L B w hB hlen own0
          · omega
          · omega
          · exact absurd hk hk'
        · cases hp
      · rw [if_neg h3] at hp
        by_cases h4 : c = 114
        · subst h4
          rw [if_pos rfl] at hp
          split at hp
          · rename_i h
            obtain ⟨hk, s0, s1, s2, s3⟩ := h
            cases hp
            rcases hv with ⟨hk', _⟩ | ⟨hk', _⟩ | ⟨_, rfl⟩ | ⟨hk', _⟩ | ⟨⟨_, _, hk', _⟩, _⟩
            · omega
            · omega
            · have q := addR a.x0 a.y0 a.x1 a.y1 s0 s1 s2 s3 A0 c0 L B w hB hlen own0
              have e : L ++ d4 a.x0 ++ d4 a.y0 ++ d4 a.x1 ++ d4 a.y1 = L ++ (d4 a.x0 ++ d4 a.y0 ++ d4 a.x1 ++ d4 a.y1) := by simp only [List.append_assoc]
              rw [e] at q
              exact q
            · omega
            · exact absurd hk hk'
          · cases hp
        · rw [if_neg h4] at hp
          by_cases h5 : c = 98
          · subst h5
            rw [if_pos rfl] at hp
            split at hp
            · rename_i h
              obtain ⟨hk, hs⟩ := h
              cases hp
              rcases hv with ⟨hk', _⟩ | ⟨hk', _⟩ | ⟨hk', _⟩ | ⟨_, sv, rfl, A1, c1, rfl, hn, _, _, hA⟩ | ⟨⟨_, _, _, hk'⟩, _⟩
              · omega
              · omega
              · omega
              · exact addB A1 c1 a.b hn hs A0 c0 L B w hB hlen own0 hA
              · exact absurd hk hk'
            · cases hp
          · rw [if_neg h5] at hp
            cases hp
/-- One that may not be. -/
theorem add0 (a : Av) (c : UInt8) (v : Value) (A0 : Option Addr) (n0 c0 : Nat) (w : World) (hv : IsA w v a) (hp : put c a = none) :
    Calls Tryd.prog 81 #[.slice A0 n0 c0, .int .u8 c.toNat, v] w (NoQ w) := by
  unfold put at hp
  rcases hv with ⟨hk, rfl⟩ | ⟨hk, rfl⟩ | ⟨hk, rfl⟩ | ⟨hk, s, rfl, A1, c1, rfl, _⟩ | ⟨_, rfl⟩
  · by_cases h1 : c = 105
    · subst h1
      rw [if_pos rfl] at hp
      refine noI1 a.n A0 n0 c0 w ?_
      cases hs : smallB a.n with
      | false => rfl
      | true => rw [if_pos ⟨hk, hs⟩] at hp; cases hp
    · by_cases h2 : c = 117
      · subst h2
        rw [if_neg h1, if_pos rfl] at hp
        refine noI2 a.n A0 n0 c0 w fun hs => ?_
        rw [if_pos ⟨hk, hs⟩] at hp; cases hp
      · exact noI3 a.n c.toNat A0 n0 c0 w (ne_of h1) (ne_of h2)
  · by_cases h3 : c = 115
    · subst h3
      rw [if_neg (by decide), if_neg (by decide), if_pos rfl] at hp
      refine noS1 a.s A0 n0 c0 w fun hs => ?_
      rw [if_pos ⟨hk, hs⟩] at hp; cases hp
    · exact noS2 a.s c.toNat A0 n0 c0 w (ne_of h3)
  · by_cases h4 : c = 114
    · subst h4
      rw [if_neg (by decide), if_neg (by decide), if_neg (by decide), if_pos rfl] at hp
      refine noR1 a.x0 a.y0 a.x1 a.y1 A0 n0 c0 w ?_
      cases hs : (smallB a.x0 && (smallB a.y0 && (smallB a.x1 && smallB a.y1))) with
      | false => rfl
      | true =>
        simp only [Bool.and_eq_true] at hs
        rw [if_pos ⟨hk, hs⟩] at hp; cases hp
    · exact noR2 a.x0 a.y0 a.x1 a.y1 c.toNat A0 n0 c0 w (ne_of h4)
  · by_cases h5 : c = 98
    · subst h5
      rw [if_neg (by decide), if_neg (by decide), if_neg (by decide), if_neg (by decide), if_pos rfl] at hp
      refine noB1 A1 a.b.length c1 A0 n0 c0 w fun hs => ?_
      rw [if_pos ⟨hk, by omega⟩] at hp; cases hp
    · exact noB2 _ c.toNat A0 n0 c0 w (ne_of h5)
  · exact noT true c.toNat A0 n0 c0 w

end Go.Proofs.YthkbenhlhldglaaDoor
