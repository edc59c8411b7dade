/-
  What is proved: what the document's Add, Drop, Of, Same hand back. Conditions: the ids rise and may be; at most 32 of them.
-/
import Derived.Test.YtdbkklhnoflbpaaWe
namespace Go.Proofs.Ytdbkklhnoflbpaa
open Go.ChangeShapes Go.WideShapes Go.ChangeAt Go.RowKit Go.Joins Go.Sort Go.Deep Go.Maps

set_option maxRecDepth 100000 in
set_option maxHeartbeats 1000000 in
theorem rAddNil {w : World} {B : Nat} (hB : B ≤ w.heap.size) (m i k : Int) (hm1 : 1 ≤ m) (hm32 : m ≤ 32) (hi : 1 ≤ i ∧ i ≤ 4294967295) (hk : 1 ≤ k ∧ k ≤ 8) :
    Calls Try.prog 10 #[.agg #[.int .i64 m, .slice none 0 0], .int .i64 i, .int .i64 k] w (AddQ w B m [(i, k)] 0) := by
  have ck := fun W => rKind1 (A := none) (c := 0) (L := []) (w := W) (.inl rfl) (by simp) m i
  simp only [List.length_nil, show kindL [] i = 0 from rfl] at ck
  have g1 : Gr w ((w.alloc (.cells #[.int .i64 m, .slice none 0 0] 27)).alloc (.cells #[.int .i64 0, .slice none 0 0] 27)) := ((Gr.refl w).alloc _).alloc _
  have bx := (At.new w #[.int .i64 m, .slice none 0 0] 27).alloc (.cells #[.int .i64 0, .slice none 0 0] 27)
  have rx := At.newAt (w := w.alloc (.cells #[.int .i64 m, .slice none 0 0] 27)) (n := w.heap.size + 1) (by simp) #[.int .i64 0, .slice none 0 0] 27
  have q1 : decide (i < 1) = false := by simp; omega
  have q2 : decide (4294967295 < i) = false := by simp; omega
  have q3 : decide (k < 1) = false := by simp; omega
  have q4 : decide (8 < k) = false := by simp; omega
  have hq : decide (m ≤ 0) = false := by simp; omega
  clear hm1
  replace hi := Lib.hid hi
  replace hk := Lib.hid hk
  go_enter Try.func10, Try.ntmps10
  go_wp2_with fail
  refine (ck _).mono ?_
  rintro e wr ⟨rfl, g2⟩
  have G2 := g1.trans g2
  have bx2 := bx.gr g2
  have rx2 := rx.gr g2
  clear bx rx g1 g2 ck
  obtain ⟨sz, hsz⟩ : ∃ sz, sz = w.heap.size := ⟨_, rfl⟩
  rw [← hsz] at bx2 rx2 ⊢
  replace hsz := Lib.hid hsz
  have b0 := bx2.cell 0
  have b1 := bx2.cell 1
  obtain ⟨bq, hbq⟩ : ∃ bq, bq = wr.heap.size := ⟨_, rfl⟩
  replace hbq := Lib.hid hbq
  go_wp2
  refine wp_loop_rounds 1 ?_
  rw [rounds_succ]
  go_wp2_with (first
    | (at_builtin; refine Shp.wp_app (S := shK) Try.underlying25 infoK rfl (by decide) rfl (.tmp 55) (.tmp 59) rfl none 0 [] rfl bq (Shp.Ow.nil _ _) none 0 [] rfl (by simp) (Shp.Rd.nil _ _) (by simp) (Nat.le_of_eq hbq.out) ?_; intro A1 c1 w3 own1 ap1 lies1; rw [List.nil_append] at own1; simp only [List.length_nil, Nat.zero_add]; replace ap1 := By.none ap1; have hs3 := Bl.size ap1)
    | (at_builtin; refine Shp.wp_app (S := shK) Try.underlying25 infoK rfl (by decide) rfl (.tmp 61) (.tmp 65) rfl A1 c1 [] rfl bq (own1.bl ((Bl.refl _).alloc _)) (some ⟨w3.heap.size, 0, none⟩) 1 [(i, k)] rfl (by simp) (Shp.Rd.new1 (At.new _ _ _) rfl) (by simp) (by have := hbq.out; simp; omega) ?_; intro A2 c2 w4 own2 ap2 lies2; have G4 : Bl wr w4 := app_bl ap2 (ap1.alloc _) (by rcases own1.lies with h | ⟨x, h1, h2, h3⟩; exact .inl h; exact .inr ⟨x, h1, h2, by simp; omega⟩) (Nat.le_of_eq hbq.out.symm); have b4 := (bx2.bl G4).cell 1; have hs4 := Bl.size G4; rw [List.nil_append] at own2; simp only [List.length_cons, List.length_nil, Nat.zero_add])
    | (at_builtin; refine Shp.wp_app (S := shK) Try.underlying25 infoK rfl (by decide) rfl (.tmp 67) (.tmp 71) rfl A2 c2 [(i, k)] rfl bq own2 _ _ [] rfl (by simp) (Shp.Rd.nil _ _) (by simp) (by have := hbq.out; omega) ?_; intro A3 c3 w5 own3 ap3 lies3; have G5 : Bl wr w5 := app_bl ap3 G4 own2.lies (Nat.le_of_eq hbq.out.symm); have bx5 := bx2.bl G5; have rx5 := rx2.bl G5; have b50 := bx5.cell 0; have b51 := bx5.cell 1; have bf1 := bx5.free 1; have r50 := rx5.cell 0; have r51 := rx5.cell 1; have rf0 := rx5.free 0; have rf1 := rx5.free 1; rw [List.append_nil] at own3; simp only [List.length_cons, List.length_nil, Nat.zero_add, Nat.add_zero]))
  have hb1 := rx2.lt
  have P5 := ((rx5.far (p := ⟨sz, 1, none⟩) (by simp) (.slice A3 1 c3)).put 0 (.int .i64 m)).put 1 (.slice A3 1 c3)
  have d0 := P5.cell 0
  have d1 := P5.cell 1
  simp at d0 d1
  have hbz : sz + 1 < bq := by rw [hbq.out]; exact hb1
  have own6 := ((own3.set (p := ⟨sz, 1, none⟩) (by show sz < bq; omega) (.slice A3 1 c3)).set (p := ⟨sz + 1, 0, none⟩) hbz (.int .i64 m)).set (p := ⟨sz + 1, 1, none⟩) hbz (.slice A3 1 c3)
  have hws := G2.size
  have G6 := (((G2.bl.trans G5).setCell (p := ⟨sz, 1, none⟩) (Nat.le_of_eq hsz.out.symm) (.slice A3 1 c3)).setCell (p := ⟨sz + 1, 0, none⟩) (by rw [hsz.out]; exact Nat.le_succ _) (.int .i64 m)).setCell (p := ⟨sz + 1, 1, none⟩) (by rw [hsz.out]; exact Nat.le_succ _) (.slice A3 1 c3)
  exact bodyPost_ret (v := .tuple #[.agg #[.int .i64 m, .slice A3 1 c3], .int .i64 0]) (by simp [results, Try.results10, go_sem, d0, d1]) rfl ⟨A3, c3, rfl, own6.low (by rw [hbq.out]; omega), G6⟩

theorem rAdd1 {w : World} {A : Option Addr} {c B : Nat} {L : List Ik} (h : OwK w B A c L) (hB : B ≤ w.heap.size) (m i k : Int) (hok : OkT m L) :
    Calls Try.prog 10 #[.agg #[.int .i64 m, .slice A L.length c], .int .i64 i, .int .i64 k] w (AddQ w B m (addL m L i k) (addE m L i k)) := by
  by_cases he : addE m L i k = 0
  · have hl : addL m L i k = insL (i, k) L := if_pos he
    have hb : ¬(i < 1 ∨ 4294967295 < i ∨ k < 1 ∨ 8 < k) := fun hb => by rw [addE_bad hb] at he; cases he
    have he' := he
    rw [addE_ok hb] at he'
    rw [hl, he]
    have hn : hasL L i = false := by
      cases hx : hasL L i
      · rfl
      · rw [hx] at he'; cases he'
    rw [hn] at he'
    simp only [Bool.false_eq_true, if_false] at he'
    have hm : (L.length : Int) < m := by
      by_cases h' : m ≤ (L.length : Int)
      · rw [if_pos h'] at he'; cases he'
      · omega
    rcases own_addr h with ⟨rfl, rfl, h0⟩ | ⟨g, rfl, _⟩
    · obtain rfl : L = [] := List.eq_nil_of_length_eq_zero h0
      exact rAddNil hB m i k hok.m1 hok.m32 (by omega) (by omega)
    · exact rAddSome h hB m i k hok hm (by omega) (by omega) hn
  · exact rAddSame h m i k hok he

theorem take_at {α : Type} {l : List α} {k : Nat} {x : α} (h : l[k]? = some x) : l.take (k + 1) = l.take k ++ [x] := by rw [List.take_add_one, h]; rfl
theorem drop_step {L : List Ik} {j : Nat} {p : Ik} (h : L[j]? = some p) (i : Int) : dropL (L.take (j + 1)) i = dropL (L.take j) i ++ if (p.1 != i) = true then [p] else [] := by
  rw [take_at h]
  unfold dropL
  rw [List.filter_append]
  congr 1
  simp only [List.filter_cons, List.filter_nil, bne]
theorem of_step {L : List Ik} {j : Nat} {p : Ik} (h : L[j]? = some p) (k : Int) : ofL (L.take (j + 1)) k = ofL (L.take j) k ++ if (p.2 == k) = true then [p.1] else [] := by
  rw [take_at h]
  unfold ofL
  rw [List.filter_append, List.map_append]
  congr 1
  simp only [List.filter_cons, List.filter_nil]
  split <;> rfl

set_option maxRecDepth 100000 in
set_option maxHeartbeats 1000000 in
theorem rDrop1 {w : World} {A : Option Addr} {c : Nat} {L : List Ik} (h : shK.Rd w A L) (m i : Int) (hlen : L.length ≤ 32) :
    Calls Try.prog 14 #[.agg #[.int .i64 m, .slice A L.length c], .int .i64 i] w fun e w' =>
      ∃ A' c', e = .returned (.tuple #[.agg #[.int .i64 m, .slice A' (dropL L i).length c'], .bool (hasL L i)]) ∧ OwK w' w.heap.size A' c' (dropL L i) ∧ Bl w w' := by
  have bx := (At.new w #[.int .i64 m, .slice A L.length c] 27).alloc (.cells #[.int .i64 0, .slice none 0 0] 27)
  have rx := At.newAt (w := w.alloc (.cells #[.int .i64 m, .slice A L.length c] 27)) (n := w.heap.size + 1) (by simp) #[.int .i64 0, .slice none 0 0] 27
  have hwas := dropL_lt L i
  generalize hasL L i = was at *
  obtain ⟨sz, hsz⟩ : ∃ sz, sz = w.heap.size := ⟨_, rfl⟩
  have G0 : Bl w ((w.alloc (.cells #[.int .i64 m, .slice A L.length c] 27)).alloc (.cells #[.int .i64 0, .slice none 0 0] 27)) := ((Bl.refl w).alloc _).alloc _
  have hs0 : sz + 2 ≤ ((w.alloc (.cells #[.int .i64 m, .slice A L.length c] 27)).alloc (.cells #[.int .i64 0, .slice none 0 0] 27)).heap.size := by simp; omega
  go_enter Try.func14, Try.ntmps14
  go_wp2
  rw [← hsz] at bx rx ⊢
  replace hsz := Lib.hid hsz
  replace hwas := Lib.hid hwas
  go_loopw [6, 7] (fun v iv wr => ∃ (j : Nat) (A2 : Option Addr) (c2 : Nat) (E2 : List Ik), j ≤ L.length ∧ v = .slice A2 E2.length c2 ∧ iv = .int .i64 j ∧ OwK wr (sz + 2) A2 c2 E2 ∧ Hid (E2 = dropL (L.take j) i) ∧ Bl w wr ∧
      At wr sz #[.int .i64 m, .slice A L.length c] 27 ∧ At wr (sz + 1) #[.int .i64 0, .slice none 0 0] 27 ∧ sz + 2 ≤ wr.heap.size) (fun _ iv _ => L.length - (intOf iv).toNat)
  case atStart => exact ⟨0, none, 0, [], by omega, rfl, rfl, Shp.Ow.nil _ _, Lib.hid (by simp [dropL]), G0, bx, rx, hs0⟩
  case round =>
    clear bx rx G0 hs0
    obtain ⟨j, A2, c2, E2, hj, rfl, rfl, own, hE, G, bx, rx, hws⟩ := hrel
    have b0 := bx.cell 0
    have b1 := bx.cell 1
    have hEl : E2.length ≤ 32 := by
      rw [hE.out]
      have h1 := dropL_le (L.take j) i
      have h2 := List.length_take_le j L
      omega
    by_cases hlt : j < L.length
    · obtain ⟨p, hp⟩ := list_at hlt
      obtain ⟨b, off, rfl, hrow⟩ := h.opened (by omega)
      obtain ⟨e1, e2⟩ := ik_at (hrow.bl G) hp
      have hs := drop_step hp i
      rw [← hE.out] at hs
      replace hp := Lib.hid hp
      cases hq : p.1 != i
      · rw [hq] at hs
        simp only [Bool.false_eq_true, if_false, List.append_nil] at hs
        replace hs := Lib.hid hs.symm
        replace hEl := Lib.hid hEl
        go_wp2
        go_roundw
        case rel => exact ⟨j + 1, A2, c2, E2, by omega, rfl, by go_num, own, hs, G, bx, rx, hws⟩
        case measure => simp [intOf]; omega
      · rw [hq] at hs
        simp only [if_true] at hs
        replace hs := Lib.hid hs.symm
        replace hEl := Lib.hid hEl
        replace hj := Lib.hid hj
        go_wp2_with (at_builtin; refine Shp.wp_app (S := shK) Try.underlying25 infoK rfl (by decide) rfl (.tmp 24) (.tmp 30) rfl A2 c2 E2 rfl (sz + 2) (own.bl ((Bl.refl _).alloc _)) (some ⟨wr.heap.size, 0, none⟩) 1 [p] rfl (by simp) (Shp.Rd.new1 (At.new _ _ _) rfl) (by have := hEl.out; simp; omega) (by simp; omega) ?_; intro A3 c3 w3 own3 ap3 lies3)
        have G3 : Bl w w3 := own.app_bl ap3 (G.alloc _) (by rw [hsz.out]; omega)
        go_roundw
        case rel => exact ⟨j + 1, A3, c3, E2 ++ [p], by omega, by simp, by go_num, own3, hs, G3, (bx.alloc _).grown ap3 (fun e => by have := own.above e.symm; omega), (rx.alloc _).grown ap3 (fun e => by have := own.above e.symm; omega), by have := ap3.size; simp at this; omega⟩
        case measure => simp [intOf]; omega
    · have hjl : L.take j = L := List.take_of_length_le (by omega)
      rw [hjl] at hE
      have hbf := bx.free 1
      have r0 := rx.cell 0
      have r1 := rx.cell 1
      have rf0 := rx.free 0
      have rf1 := rx.free 1
      have hwd : was = decide ((E2.length : Int) < (L.length : Int)) := by rw [hwas.out, ← hE.out]; simp
      replace hwd := Lib.hid hwd
      obtain ⟨bb, hbb⟩ : ∃ b : Bool, b = decide ((E2.length : Int) < (L.length : Int)) := ⟨_, rfl⟩
      have hbb' := hbb.symm
      have hw2 : was = bb := by rw [hwd.out, hbb]
      replace hbb := Lib.hid hbb
      subst hw2
      clear hwas hwd
      have hbn : decide (E2.length < L.length) = was := by rw [← hbb']; simp
      replace hEl := Lib.hid hEl
      go_wp2
      have P5 := ((rx.far (p := ⟨sz, 1, none⟩) (by simp) (.slice A2 E2.length c2)).put 0 (.int .i64 m)).put 1 (.slice A2 E2.length c2)
      have d0 := P5.cell 0
      have d1 := P5.cell 1
      simp at d0 d1
      have own6 := ((own.set (p := ⟨sz, 1, none⟩) (by show sz < _; omega) (.slice A2 E2.length c2)).set (p := ⟨sz + 1, 0, none⟩) (by show sz + 1 < _; omega) (.int .i64 m)).set (p := ⟨sz + 1, 1, none⟩) (by show sz + 1 < _; omega) (.slice A2 E2.length c2)
      have G6 := ((G.setCell (p := ⟨sz, 1, none⟩) (Nat.le_of_eq hsz.out.symm) (.slice A2 E2.length c2)).setCell (p := ⟨sz + 1, 0, none⟩) (by rw [hsz.out]; exact Nat.le_succ _) (.int .i64 m)).setCell (p := ⟨sz + 1, 1, none⟩) (by rw [hsz.out]; exact Nat.le_succ _) (.slice A2 E2.length c2)
      refine bodyPost_ret (v := .tuple #[.agg #[.int .i64 m, .slice A2 E2.length c2], .bool was]) (by simp [results, Try.results14, go_sem, d0, d1]) rfl ⟨A2, c2, by rw [hE.out], ?_, G6⟩
      rw [← hE.out]
      exact own6.low (by rw [hsz.out]; omega)

set_option maxRecDepth 100000 in
set_option maxHeartbeats 1000000 in
theorem rOf1 {w : World} {A : Option Addr} {c : Nat} {L : List Ik} (h : shK.Rd w A L) (m k : Int) (hlen : L.length ≤ 32) :
    Calls Try.prog 20 #[.agg #[.int .i64 m, .slice A L.length c], .int .i64 k] w fun e w' =>
      ∃ A' c', e = .returned (.slice A' (ofL L k).length c') ∧ OwInt w' w.heap.size A' c' (ofL L k) ∧ Bl w w' := by
  have bx := At.new w #[.int .i64 m, .slice A L.length c] 27
  obtain ⟨sz, hsz⟩ : ∃ sz, sz = w.heap.size := ⟨_, rfl⟩
  have G0 : Bl w (w.alloc (.cells #[.int .i64 m, .slice A L.length c] 27)) := (Bl.refl w).alloc _
  have hs0 : sz + 1 ≤ (w.alloc (.cells #[.int .i64 m, .slice A L.length c] 27)).heap.size := by simp; omega
  go_enter Try.func20, Try.ntmps20
  go_wp2
  rw [← hsz] at bx ⊢
  replace hsz := Lib.hid hsz
  go_loopw [5, 6] (fun v iv wr => ∃ (j : Nat) (A2 : Option Addr) (c2 : Nat) (E2 : List Int), j ≤ L.length ∧ v = .slice A2 E2.length c2 ∧ iv = .int .i64 j ∧ OwInt wr (sz + 1) A2 c2 E2 ∧ Hid (E2 = ofL (L.take j) k) ∧ Bl w wr ∧
      At wr sz #[.int .i64 m, .slice A L.length c] 27 ∧ sz + 1 ≤ wr.heap.size) (fun _ iv _ => L.length - (intOf iv).toNat)
  case atStart => exact ⟨0, none, 0, [], by omega, rfl, rfl, Shp.Ow.nil _ _, Lib.hid (by simp [ofL]), G0, bx, hs0⟩
  case round =>
    clear bx G0 hs0
    obtain ⟨j, A2, c2, E2, hj, rfl, rfl, own, hE, G, bx, hws⟩ := hrel
    have b0 := bx.cell 0
    have b1 := bx.cell 1
    have hEl : E2.length ≤ 32 := by
      rw [hE.out]
      have h1 := ofL_len (L.take j) k
      have h2 := List.length_take_le j L
      omega
    by_cases hlt : j < L.length
    · obtain ⟨p, hp⟩ := list_at hlt
      obtain ⟨b, off, rfl, hrow⟩ := h.opened (by omega)
      obtain ⟨e1, e2⟩ := ik_at (hrow.bl G) hp
      have hs := of_step hp k
      rw [← hE.out] at hs
      replace hp := Lib.hid hp
      cases hq : p.2 == k
      · rw [hq] at hs
        simp only [Bool.false_eq_true, if_false, List.append_nil] at hs
        replace hs := Lib.hid hs.symm
        replace hEl := Lib.hid hEl
        go_wp2
        go_roundw
        case rel => exact ⟨j + 1, A2, c2, E2, by omega, rfl, by go_num, own, hs, G, bx, hws⟩
        case measure => simp [intOf]; omega
      · rw [hq] at hs
        simp only [if_true] at hs
        replace hs := Lib.hid hs.symm
        replace hEl := Lib.hid hEl
        replace hj := Lib.hid hj
        go_wp2_with (at_builtin; refine Shp.wp_app (S := shI) Try.underlying42 infoInt rfl (by decide) rfl (.tmp 22) (.tmp 29) rfl A2 c2 E2 rfl (sz + 1) (own.bl ((Bl.refl _).alloc _)) (some ⟨wr.heap.size, 0, none⟩) 1 [p.1] rfl (by simp) (Shp.Rd.new1 (At.new _ _ _) rfl) (by have := hEl.out; simp; omega) (by simp; omega) ?_; intro A3 c3 w3 own3 ap3 lies3)
        have G3 : Bl w w3 := own.app_bl ap3 (G.alloc _) (by rw [hsz.out]; omega)
        go_roundw
        case rel => exact ⟨j + 1, A3, c3, E2 ++ [p.1], by omega, by simp, by go_num, own3, hs, G3, (bx.alloc _).grown ap3 (fun e => by have := own.above e.symm; omega), by have := ap3.size; simp at this; omega⟩
        case measure => simp [intOf]; omega
    · have hjl : L.take j = L := List.take_of_length_le (by omega)
      rw [hjl] at hE
      replace hEl := Lib.hid hEl
      go_wp2
      go_ret
      refine ⟨A2, c2, by rw [hE.out]; rfl, ?_, G⟩
      rw [← hE.out]
      exact own.low (by rw [hsz.out]; omega)

theorem same_cut {α : Type} [DecidableEq α] {a b : List α} {j : Nat} (h : a.take j = b.take j) {x y : α} (hx : a[j]? = some x) (hy : b[j]? = some y) : (x ≠ y → a ≠ b) ∧ (x = y → a.take (j + 1) = b.take (j + 1)) :=
  ⟨fun hne e => by subst e; rw [hx] at hy; exact hne (Option.some.inj hy), fun e => by subst e; rw [take_at hx, take_at hy, h]⟩
set_option maxRecDepth 100000 in
theorem rSame1 {w : World} {A B : Option Addr} {c d : Nat} {L M : List Int} (hL : shI.Rd w A L) (hM : shI.Rd w B M) (hl : L.length ≤ 1000000) (hm : M.length ≤ 1000000) :
    Calls Try.prog 18 #[.slice A L.length c, .slice B M.length d] w (Rt w (.bool (decide (L = M)))) := by
  obtain ⟨r, hr⟩ : ∃ r, r = decide (L = M) := ⟨_, rfl⟩
  rw [← hr]
  replace hr := Lib.hid hr
  by_cases hn : L.length = M.length
  · have hne : ((L.length : Int) != (M.length : Int)) = false := by simp [hn]
    have hne' : (L.length != M.length) = false := by simp [hn]
    replace hn := Lib.hid hn
    go_enter Try.func18, Try.ntmps18
    go_wp2
    go_loopw [5] (fun iv wr => ∃ j : Nat, j ≤ L.length ∧ iv = .int .i64 j ∧ Gr w wr ∧ Hid (L.take j = M.take j)) (fun iv _ => L.length - (intOf iv).toNat)
    case atStart => exact ⟨0, by omega, rfl, Gr.refl _, Lib.hid (by simp)⟩
    case round =>
      obtain ⟨j, hj, rfl, G, hE⟩ := hrel
      by_cases hlt : j < L.length
      · obtain ⟨x, hx⟩ := list_at hlt
        obtain ⟨y, hy⟩ := list_at (l := M) (k := j) (by have := hn.out; omega)
        have hlt2 : j < M.length := by have := hn.out; omega
        obtain ⟨b, off, rfl, hrow⟩ := hL.opened (by omega)
        obtain ⟨b2, off2, rfl, hrow2⟩ := hM.opened (by omega)
        have e1 := fun n os => int_at (hrow.bl ((G.bl.drewN n).grow os)) hx
        have e2 := fun n os => int_at (hrow2.bl ((G.bl.drewN n).grow os)) hy
        obtain ⟨q1, q2⟩ := same_cut hE.out hx hy
        replace hx := Lib.hid hx
        replace hy := Lib.hid hy
        by_cases hxy : x = y
        · have hs := Lib.hid (q2 hxy)
          have hb : (x != y) = false := by simp [hxy]
          clear q1 q2
          replace hxy := Lib.hid hxy
          go_wp2
          refine wp_region_quiet_grown (by kernel_rfl) (by kernel_rfl) ?_
          repeat (first | go_big_quiet_step (fail) | quiet_step (fail))
          refine wpQuiet_nil ?_
          intro w2 g2
          replace g2 : Gr _ w2 := g2
          go_wp2
          go_roundw
          case rel => exact ⟨j + 1, by omega, by go_num, G.trans g2, hs⟩
          case measure => simp [intOf]; omega
        · have hs := q1 hxy
          have hb : (x != y) = true := by simpa using hxy
          obtain rfl : r = false := by rw [hr.out]; exact decide_eq_false hs
          clear q1 q2 hs
          replace hxy := Lib.hid hxy
          go_wp2
          refine wp_region_quiet_grown (by kernel_rfl) (by kernel_rfl) ?_
          repeat (first | go_big_quiet_step (fail) | quiet_step (fail))
          refine wpQuiet_nil ?_
          intro w2 g2
          replace g2 : Gr _ w2 := g2
          go_wp2
          go_ret
          exact ⟨rfl, G.trans g2⟩
      · have hrt : r = true := by
          rw [hr.out]
          refine decide_eq_true ?_
          have h1 := hE.out
          rwa [List.take_of_length_le (by omega), List.take_of_length_le (by have := hn.out; omega)] at h1
        subst hrt
        go_wp2
        go_ret
        exact ⟨rfl, G⟩
  · have hne : ((L.length : Int) != (M.length : Int)) = true := bne_iff_ne.2 (by omega)
    have hne' : (L.length != M.length) = true := by simpa using hn
    obtain rfl : r = false := by rw [hr.out]; exact decide_eq_false (fun e => hn (by rw [e]))
    replace hn := Lib.hid hn
    go_enter Try.func18, Try.ntmps18
    go_wp2
    go_ret
    exact ⟨rfl, Gr.refl _⟩

theorem idlives1 (w : World) : Calls Try.prog 23 #[] w fun e w' => e = .returned (.bool true) ∧ Bl w w' := by
  have cn := fun w => idNew1 3 w
  go_enter Try.func23, Try.ntmps23
  go_wp2_with fail
  refine (cn _).mono ?_
  rintro e w1 ⟨a, b, rfl, ha, hb, tb, g1⟩
  have ca := idAdd1 tb 5 1 (by unfold I64; omega) (by unfold I64; omega)
  rw [show mostN 3 = 3 from rfl, show addE 3 [] 5 1 = 0 from rfl, show addL 3 [] 5 1 = [(5, 1)] from rfl] at ca
  clear cn
  go_wp2_with fail
  refine ca.mono ?_
  rintro e w2 ⟨rfl, tb2, g2⟩
  have cf := idFind1 tb2 5 2 (by unfold I64; omega)
  rw [show findE [(5, 1)] 5 2 = 9 from rfl] at cf
  have G2 := g1.grown g2 (fun k hk => by cases hk; exact hb)
  clear ca
  go_wp2_with fail
  refine cf.mono ?_
  rintro e w3 ⟨rfl, g3⟩
  go_wp2
  go_ret
  exact ⟨rfl, G2.trans g3.bl⟩

end Go.Proofs.Ytdbkklhnoflbpaa
