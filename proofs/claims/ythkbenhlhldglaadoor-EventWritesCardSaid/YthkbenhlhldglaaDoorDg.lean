/-
  What is proved: what May of the document's package of events hands back of any event. No conditions.
-/
import Derived.Test.YthkbenhlhldglaaDoorDe
namespace Go.Proofs.YthkbenhlhldglaaDoor
open Go.RowKit Go.Sort

/-- A number that may stand at its place of a form. -/
def okN (f : List UInt8) (i : Nat) (x : Int) : Prop := match f[i]? with
  | none => x = 0
  | some c => if c = 117 then 0 ≤ x ∧ x ≤ 4294967295 else -2147483648 ≤ x ∧ x ≤ 2147483647
theorem okN_none {f : List UInt8} {i : Nat} {x : Int} (h : f.length ≤ i) : okN f i x ↔ x = 0 := by
  unfold okN; rw [List.getElem?_eq_none h]
theorem okN_u {f : List UInt8} {i : Nat} {x : Int} (h : f[i]? = some 117) : okN f i x ↔ 0 ≤ x ∧ x ≤ 4294967295 := by
  unfold okN; rw [h]; simp
theorem okN_i {f : List UInt8} {i : Nat} {x : Int} (h : f[i]? = some 105) : okN f i x ↔ -2147483648 ≤ x ∧ x ≤ 2147483647 := by
  unfold okN; rw [h]; simp
theorem okE_iff (e : Ev) : okE e ↔ (0 ≤ e.k ∧ e.k ≤ 5) ∧ (0 ≤ e.id ∧ e.id ≤ 4294967295) ∧ (okN (efL e.k.toNat) 0 e.a ∧ okN (efL e.k.toNat) 1 e.b) ∧ (1 < e.k ∨ (1 ≤ e.a ∧ e.a ≤ 12 ∧ e.b ≤ 255)) := by
  obtain ⟨k, id, a, b⟩ := e
  constructor
  · intro h
    have hk := h.k
    obtain ⟨hid, h⟩ := h
    unfold argE at h
    dsimp only at *
    refine ⟨hk, hid, ?_⟩
    rcases h with ⟨rfl, h1, h2⟩ | ⟨rfl, h1, h2⟩ | ⟨rfl, h1, h2⟩ | ⟨rfl, h1, h2⟩ | ⟨rfl, h1, h2⟩ | ⟨rfl, h1, h2⟩
    · exact ⟨⟨(okN_u rfl).2 (by omega), (okN_u rfl).2 (by omega)⟩, by omega⟩
    · exact ⟨⟨(okN_u rfl).2 (by omega), (okN_none (by decide)).2 (by omega)⟩, by omega⟩
    · exact ⟨⟨(okN_none (by decide)).2 (by omega), (okN_none (by decide)).2 (by omega)⟩, by omega⟩
    · exact ⟨⟨(okN_u rfl).2 (by omega), (okN_u rfl).2 (by omega)⟩, by omega⟩
    · exact ⟨⟨(okN_i rfl).2 (by omega), (okN_i rfl).2 (by omega)⟩, by omega⟩
    · exact ⟨⟨(okN_none (by decide)).2 (by omega), (okN_none (by decide)).2 (by omega)⟩, by omega⟩
  · rintro ⟨hk, hid, ⟨h1, h2⟩, h3⟩
    refine ⟨hid, ?_⟩
    unfold argE
    dsimp only at *
    have h6 : k = 0 ∨ k = 1 ∨ k = 2 ∨ k = 3 ∨ k = 4 ∨ k = 5 := by omega
    rcases h6 with rfl | rfl | rfl | rfl | rfl | rfl
    · have e1 := (okN_u (show (efL (Int.toNat 0))[0]? = some 117 from rfl)).1 h1
      have e2 := (okN_u (show (efL (Int.toNat 0))[1]? = some 117 from rfl)).1 h2
      omega
    · have e2 := (okN_none (show (efL (Int.toNat 1)).length ≤ 1 by decide)).1 h2
      omega
    · have e1 := (okN_none (show (efL (Int.toNat 2)).length ≤ 0 by decide)).1 h1
      have e2 := (okN_none (show (efL (Int.toNat 2)).length ≤ 1 by decide)).1 h2
      omega
    · have e1 := (okN_u (show (efL (Int.toNat 3))[0]? = some 117 from rfl)).1 h1
      have e2 := (okN_u (show (efL (Int.toNat 3))[1]? = some 117 from rfl)).1 h2
      omega
    · have e1 := (okN_i (show (efL (Int.toNat 4))[0]? = some 105 from rfl)).1 h1
      have e2 := (okN_i (show (efL (Int.toNat 4))[1]? = some 105 from rfl)).1 h2
      omega
    · have e1 := (okN_none (show (efL (Int.toNat 5)).length ≤ 0 by decide)).1 h1
      have e2 := (okN_none (show (efL (Int.toNat 5)).length ≤ 1 by decide)).1 h2
      omega
theorem efL_mem {n : Nat} (h : n < 6) : ∀ c ∈ efL n, c = 117 ∨ c = 105 := by
  have : ∀ m : Fin 6, ∀ c ∈ efL m.1, c = 117 ∨ c = 105 := by decide
  exact this ⟨n, h⟩
def BtE (w : World) (v : Value) (e : Ending) (w' : World) : Prop := e = .returned v ∧ Bl w w'
set_option maxRecDepth 100000 in
set_option maxHeartbeats 2000000 in
theorem reMay_out (k id a b : Int) (w : World) (h : ¬ ((0 ≤ k ∧ k ≤ 5) ∧ (0 ≤ id ∧ id ≤ 4294967295))) : Calls Tryd.prog 30 #[.agg #[.int .i64 k, .int .i64 id, .int .i64 a, .int .i64 b]] w (BtE w (.bool false)) := by
  go_enter Tryd.func30, Tryd.ntmps30
  go_wp2
  all_goals first
    | (go_ret; exact ⟨rfl, (Bl.refl w).alloc _⟩)
    | (exfalso; omega)
set_option maxRecDepth 100000 in
set_option maxHeartbeats 2000000 in
theorem reMay_in (k id a b : Int) (n : Nat) (F : ByteArray) (w : World) (Z : Ending → World → Prop) (hk : 0 ≤ k ∧ k ≤ 5) (hid : 0 ≤ id ∧ id ≤ 4294967295) (hn : F.size = n) (_hn2 : n ≤ 2) (hmem : ∀ c ∈ F.data.toList, c = 117 ∨ c = 105)
    (c1 : ∀ V, Calls Tryd.prog 59 #[.int .i64 k] V (Rt V (.string F)))
    (z0 : ∀ V, Bl w V → ¬ (okN F.data.toList 0 a ∧ okN F.data.toList 1 b) → Z (.returned (.bool false)) V)
    (z1 : ∀ V, Bl w V → (okN F.data.toList 0 a ∧ okN F.data.toList 1 b) → Z (.returned (.bool (decide (1 < k ∨ (1 ≤ a ∧ a ≤ 12 ∧ b ≤ 255))))) V) :
    Calls Tryd.prog 30 #[.agg #[.int .i64 k, .int .i64 id, .int .i64 a, .int .i64 b]] w Z := by
  obtain ⟨k5, k6⟩ := hk
  obtain ⟨i5, i6⟩ := hid
  have X := At.new w #[.int .i64 k, .int .i64 id, .int .i64 a, .int .i64 b] 62
  have B := At.newAt (w := w.alloc (.cells #[.int .i64 k, .int .i64 id, .int .i64 a, .int .i64 b] 62)) (n := w.heap.size + 1) (by simp) #[.int .i64 a, .int .i64 b] 3
  have X1 := X.alloc (.cells #[.int .i64 a, .int .i64 b] 3)
  have G : Bl w ((w.alloc (.cells #[.int .i64 k, .int .i64 id, .int .i64 a, .int .i64 b] 62)).alloc (.cells #[.int .i64 a, .int .i64 b] 3)) := ((Bl.refl w).alloc _).alloc _
  clear X
  go_enter Tryd.func30, Tryd.ntmps30
  go_wp2_with fail
  refine (c1 _).mono ?_
  rintro e w1 ⟨rfl, g1⟩
  have X2 := X1.gr g1
  have B2 := B.gr g1
  have G2 := G.gr g1
  clear X1 B G g1 c1
  go_wp2
  go_loopw [5] (fun i wr => ∃ j : Nat, j ≤ 2 ∧ i = .int .i64 ((j : Nat) : Int) ∧ wr = w1 ∧ Hid ((0 < j → okN F.data.toList 0 a) ∧ (1 < j → okN F.data.toList 1 b))) (fun i _ => 2 - (intOf i).toNat)
  case atStart => exact ⟨0, Nat.zero_le _, rfl, rfl, Lib.hid ⟨by omega, by omega⟩⟩
  case round =>
    obtain ⟨j, hj, rfl, rfl, hz⟩ := hrel
    by_cases hlt : j < 2
    · have q1 : (j : Int) < 2 := by omega
      obtain ⟨x, hc, hx⟩ : ∃ x, wr.cell? ⟨w.heap.size + 1, j, none⟩ = some (.int .i64 x) ∧ ((j = 0 ∧ x = a) ∨ (j = 1 ∧ x = b)) := by
        have b0 := B2.cell 0
        have b1 := B2.cell 1
        have h2 : j = 0 ∨ j = 1 := by omega
        rcases h2 with rfl | rfl
        · exact ⟨a, b0, .inl ⟨rfl, rfl⟩⟩
        · exact ⟨b, b1, .inr ⟨rfl, rfl⟩⟩
      have yes : okN F.data.toList j x → ((0 < j + 1 → okN F.data.toList 0 a) ∧ (1 < j + 1 → okN F.data.toList 1 b)) := fun h => by
        rcases hx with ⟨rfl, rfl⟩ | ⟨rfl, rfl⟩
        · exact ⟨fun _ => h, fun h' => by omega⟩
        · exact ⟨fun _ => hz.out.1 (by omega), fun _ => h⟩
      have no : ¬ okN F.data.toList j x → Z (.returned (.bool false)) wr := fun h => z0 wr G2 fun h' => by
        rcases hx with ⟨rfl, rfl⟩ | ⟨rfl, rfl⟩
        · exact h h'.1
        · exact h h'.2
      replace yes := Lib.hid yes
      replace no := Lib.hid no
      clear hx z0 z1 hz X2 B2
      by_cases hnj : n ≤ j
      · have qn : (n : Int) ≤ j := by omega
        have hl : F.data.toList.length ≤ j := by show F.size ≤ j; omega
        by_cases h0 : x = 0
        · have y1 := Lib.hid (yes.out ((okN_none hl).2 h0))
          subst h0
          clear yes no
          go_wp2
          go_roundw
          case rel => exact ⟨j + 1, by omega, by go_num, by simp, y1⟩
          case measure => simp [intOf]; omega
        · have y1 := Lib.hid (no.out fun h => h0 ((okN_none hl).1 h))
          have h0' : (x == 0) = false := by simpa using h0
          clear yes no
          go_wp2
          exact y1.out
      · have qn : ¬ (n : Int) ≤ j := by omega
        have q3 : j < F.size := by omega
        have q2 : (j : Int) < (F.size : Int) := by omega
        have hcj := letter_at F q3
        have hm := hmem F[j] (List.mem_of_getElem? hcj)
        have hlit : ∀ c : UInt8, F[j] = c → (F[j].toNat : Int) = c.toNat := fun c h => by rw [h]
        rcases hm with hm | hm
        · have e0 := hlit 117 hm
          simp only [UInt8.reduceToNat] at e0
          rw [hm] at hcj
          by_cases hr : 0 ≤ x ∧ x ≤ 4294967295
          · have y1 := Lib.hid (yes.out ((okN_u hcj).2 hr))
            obtain ⟨r1, r2⟩ := hr
            replace hcj := Lib.hid hcj
            replace hm := Lib.hid hm
            clear yes no hlit
            go_wp2
            go_roundw
            case rel => exact ⟨j + 1, by omega, by go_num, by simp, y1⟩
            case measure => simp [intOf]; omega
          · have y1 := Lib.hid (no.out fun h => hr ((okN_u hcj).1 h))
            replace hcj := Lib.hid hcj
            replace hm := Lib.hid hm
            clear yes no hlit
            by_cases r1 : x < 0
            · clear hr
              go_wp2
              exact y1.out
            · have r2 : 4294967295 < x := by omega
              clear hr
              go_wp2
              exact y1.out
        · have e0 := hlit 105 hm
          simp only [UInt8.reduceToNat] at e0
          rw [hm] at hcj
          by_cases hr : -2147483648 ≤ x ∧ x ≤ 2147483647
          · have y1 := Lib.hid (yes.out ((okN_i hcj).2 hr))
            obtain ⟨r1, r2⟩ := hr
            replace hcj := Lib.hid hcj
            replace hm := Lib.hid hm
            clear yes no hlit
            go_wp2
            go_roundw
            case rel => exact ⟨j + 1, by omega, by go_num, by simp, y1⟩
            case measure => simp [intOf]; omega
          · have y1 := Lib.hid (no.out fun h => hr ((okN_i hcj).1 h))
            replace hcj := Lib.hid hcj
            replace hm := Lib.hid hm
            clear yes no hlit
            by_cases r1 : x < -2147483648
            · clear hr
              go_wp2
              exact y1.out
            · have r2 : 2147483647 < x := by omega
              clear hr
              go_wp2
              exact y1.out
    · obtain rfl : j = 2 := by omega
      have y1 := Lib.hid (z1 wr G2 ⟨hz.out.1 (by omega), hz.out.2 (by omega)⟩)
      obtain ⟨x0, x1, x2, x3⟩ := cells4E X2
      clear z0 z1 hz X2 B2 hmem
      have y2 : ∀ B, B = decide (1 < k ∨ (1 ≤ a ∧ a ≤ 12 ∧ b ≤ 255)) → Z (.returned (.bool B)) wr := fun B h => by rw [h]; exact y1.out
      replace y2 := Lib.hid y2
      clear y1
      go_wp2
      all_goals
        refine y2.out _ ?_
        simp [*]
        try omega
theorem reMay1 (e : Ev) (w : World) : Calls Tryd.prog 30 #[vE e] w (BtE w (.bool (mayE e))) := by
  by_cases h : (0 ≤ e.k ∧ e.k ≤ 5) ∧ (0 ≤ e.id ∧ e.id ≤ 4294967295)
  · obtain ⟨n, hn⟩ : ∃ n : Nat, e.k = n := ⟨e.k.toNat, by omega⟩
    have h6 : n < 6 := by omega
    have hkn : e.k.toNat = n := by omega
    have hi := okE_iff e
    rw [hkn] at hi
    refine reMay_in e.k e.id e.a e.b (efL n).length (efS n) w _ h.1 h.2 rfl (efL_ok h6).2.2 (efL_mem h6) (fun V => by rw [hn]; exact formE1 n h6 V) (fun V g h0 => ?_) (fun V g h0 => ?_)
    · refine ⟨?_, g⟩
      have : ¬ okE e := fun h' => h0 (hi.1 h').2.2.1
      unfold mayE
      rw [decide_eq_false this]
    · refine ⟨?_, g⟩
      congr 2
      unfold mayE
      rw [decide_eq_decide]
      constructor
      · exact fun h3 => hi.2 ⟨h.1, h.2, h0, h3⟩
      · exact fun h3 => (hi.1 h3).2.2.2
  · have : mayE e = false := by
      unfold mayE
      rw [decide_eq_false]
      exact fun h' => h ⟨h'.k, h'.1⟩
    rw [this]
    exact reMay_out e.k e.id e.a e.b w h

end Go.Proofs.YthkbenhlhldglaaDoor
