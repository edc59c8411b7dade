/-
  What is proved: what the document's Add of an id that may be added hands back. Conditions: the ids rise and may be; at most 32 of them.
-/
import Derived.Test.YtdbkklhnoflbpaaWd
namespace Go.Proofs.Ytdbkklhnoflbpaa
open Go.ChangeShapes Go.WideShapes Go.ChangeAt Go.RowKit Go.Joins Go.Sort Go.Deep Go.Maps

set_option maxRecDepth 100000 in
set_option maxHeartbeats 1000000 in
theorem rAddSome {w : World} {g : Nat} {c B : Nat} {L : List Ik} (h : OwK w B (some ⟨g, 0, none⟩) c L) (hB : B ≤ w.heap.size) (m i k : Int) (hok : OkT m L) (hm : (L.length : Int) < m) (hi : 1 ≤ i ∧ i ≤ 4294967295) (hk : 1 ≤ k ∧ k ≤ 8) (hn : hasL L i = false) :
    Calls Try.prog 10 #[.agg #[.int .i64 m, .slice (some ⟨g, 0, none⟩) L.length c], .int .i64 i, .int .i64 k] w (AddQ w B m (insL (i, k) L) 0) := by
  have ck := fun W (g : Gr w W) => rKind1 (c := c) (h.rd.bl g.bl) hok.len m i
  rw [kindL_no hn] at ck
  have g1 : Gr w ((w.alloc (.cells #[.int .i64 m, .slice (some ⟨g, 0, none⟩) L.length c] 27)).alloc (.cells #[.int .i64 0, .slice none 0 0] 27)) := ((Gr.refl w).alloc _).alloc _
  have bx := (At.new w #[.int .i64 m, .slice (some ⟨g, 0, none⟩) L.length c] 27).alloc (.cells #[.int .i64 0, .slice none 0 0] 27)
  have rx := At.newAt (w := w.alloc (.cells #[.int .i64 m, .slice (some ⟨g, 0, none⟩) L.length c] 27)) (n := w.heap.size + 1) (by simp) #[.int .i64 0, .slice none 0 0] 27
  have hlen := hok.len
  have hasc := hok.asc
  have q1 : decide (i < 1) = false := by simp; omega
  have q2 : decide (4294967295 < i) = false := by simp; omega
  have q3 : decide (k < 1) = false := by simp; omega
  have q4 : decide (8 < k) = false := by simp; omega
  have hq : decide (m ≤ (L.length : Int)) = false := by simp; omega
  have hi64 : I64 i := by unfold I64; omega
  replace hi := Lib.hid hi
  replace hk := Lib.hid hk
  replace hm := Lib.hid hm
  go_enter Try.func10, Try.ntmps10
  go_wp2_with fail
  refine (ck _ g1).mono ?_
  rintro e w2 ⟨rfl, g2⟩
  have G2 := g1.trans g2
  have bx2 := bx.gr g2
  have rx2 := rx.gr g2
  clear bx rx g1 g2 ck
  have b0 := bx2.cell 0
  have b1 := bx2.cell 1
  go_wp2
  clear b0 b1
  obtain ⟨sz, hsz⟩ : ∃ sz, sz = w.heap.size := ⟨_, rfl⟩
  rw [← hsz] at bx2 rx2 ⊢
  have hszb : sz ≤ w2.heap.size := by rw [hsz]; exact G2.size
  replace hsz := Lib.hid hsz
  go_loopw [8] (fun v wr => ∃ kk : Nat, kk ≤ L.length ∧ v = .int .i64 kk ∧ wr = w2 ∧ Hid (∀ j p, L[j]? = some p → kk ≤ j → i < p.1)) (fun v _ => (intOf v).toNat)
  case atStart => exact ⟨L.length, by omega, rfl, rfl, Lib.hid (fun j p hj hk => by have := (List.getElem?_eq_some_iff.1 hj).1; omega)⟩
  case round =>
    obtain ⟨kk, hkk, rfl, rfl, hhi⟩ := hrel
    have b0 := bx2.cell 0
    have b1 := bx2.cell 1
    have stop : (kk = 0 ∨ ∃ q p, kk = q + 1 ∧ L[q]? = some p ∧ ¬ i < p.1) ∨ (∃ q p, kk = q + 1 ∧ L[q]? = some p ∧ i < p.1) := by
      cases kk with
      | zero => exact .inl (.inl rfl)
      | succ q =>
        obtain ⟨p, hp⟩ := list_at (l := L) (k := q) (by omega)
        by_cases hlt : i < p.1
        · exact .inr ⟨q, p, rfl, hp, hlt⟩
        · exact .inl (.inr ⟨q, p, rfl, hp, hlt⟩)
    rcases stop with hlo | ⟨q, p, rfl, hp, hlt⟩
    · have hlo2 : kk = 0 ∨ ∃ p, L[kk - 1]? = some p ∧ ¬ i < p.1 := by
        rcases hlo with h0 | ⟨q, p, rfl, hp, hlt⟩
        · exact .inl h0
        · exact .inr ⟨p, by simpa using hp, hlt⟩
      have hcut := insL_cut hasc (x := (i, k)) hn hkk hhi.out hlo2
      have hMl : (L.take kk).length = kk := by simp; omega
      have hNl : (L.drop kk).length = L.length - kk := by simp
      have hrd := h.rd.bl G2.bl
      have hRM : shK.Rd wr (some ⟨g, 0, none⟩) (L.take kk) := by
        rcases hrd with h | ⟨b, off, he, hr⟩
        · exact .inl (by rw [h]; simp)
        · exact .inr ⟨b, off, he, hr.take kk⟩
      have hRN : shK.Rd wr (some ⟨g, kk * 2, none⟩) (L.drop kk) := by
        rcases hrd with h | ⟨b, off, he, hr⟩
        · exact .inl (by rw [h]; simp)
        · injection he with he
          injection he with he1 he2
          subst he1 he2
          exact .inr ⟨g, kk * 2, rfl, by have := hr.drop kk; rw [Nat.zero_add] at this; exact this⟩
      generalize L.take kk = M at *
      generalize L.drop kk = N at *
      replace hMl := Lib.hid hMl
      replace hNl := Lib.hid hNl
      replace hcut := Lib.hid hcut
      obtain ⟨hcap, hcm, hcn⟩ := h.caps
      have hc1 : kk ≤ c := by omega
      have hc2 : (kk : Int) ≤ (c : Int) := by omega
      have hk2 : (kk : Int) ≤ (L.length : Int) := by omega
      replace hlen := Lib.hid hlen
      replace hcm := Lib.hid hcm
      obtain ⟨bq, hbq⟩ : ∃ bq, bq = wr.heap.size := ⟨_, rfl⟩
      replace hbq := Lib.hid hbq
      rcases hlo with h0 | ⟨q, p, hq1, hp, hlt⟩
      · have hz : decide (0 < (kk : Int)) = false := by simp; exact h0
        have hz' : decide (0 < kk) = false := by simp; exact h0
        clear h0 hlo2 hrd
        replace hk2 := Lib.hid hk2
        by_cases hcc : c = kk
        · subst hcc
          have hLk : L.length = c := by omega
          obtain rfl : N = [] := List.eq_nil_of_length_eq_zero (by rw [hNl.out]; omega)
          go_wp2_with (first
            | (at_builtin; refine Shp.wp_app (S := shK) Try.underlying25 infoK rfl (by decide) rfl (.tmp 55) (.tmp 59) rfl none 0 [] rfl bq (Shp.Ow.nil _ _) (some ⟨g, 0, none⟩) c M (by rw [hMl.out]; rfl) (by simp) hRM (by have := hMl.out; have := hlen.out; simp; omega) (Nat.le_of_eq hbq.out) ?_; intro A1 c1 w3 own1 ap1 lies1; rw [List.nil_append] at own1; simp only [List.length_nil, Nat.zero_add]; replace ap1 := By.none ap1; have hs3 := Bl.size ap1)
            | (at_builtin; refine Shp.wp_app (S := shK) Try.underlying25 infoK rfl (by decide) rfl (.tmp 61) (.tmp 65) rfl A1 c1 M rfl bq (own1.bl ((Bl.refl _).alloc _)) (some ⟨w3.heap.size, 0, none⟩) 1 [(i, k)] rfl (by simp) (Shp.Rd.new1 (At.new _ _ _) rfl) (by have := hMl.out; have := hlen.out; simp; omega) (by have := hbq.out; simp; omega) ?_; intro A2 c2 w4 own2 ap2 lies2; have G4 : Bl wr w4 := app_bl ap2 (ap1.alloc _) (by rcases own1.lies with h | ⟨x, h1, h2, h3⟩; exact .inl h; exact .inr ⟨x, h1, h2, by simp; omega⟩) (Nat.le_of_eq hbq.out.symm); have b4 := (bx2.bl G4).cell 1; have hs4 := Bl.size G4; simp only [List.length_cons, List.length_nil, Nat.zero_add])
            | (at_builtin; refine Shp.wp_app (S := shK) Try.underlying25 infoK rfl (by decide) rfl (.tmp 67) (.tmp 71) rfl A2 c2 (M ++ [(i, k)]) (by rw [List.length_append]; rfl) bq own2 _ _ []  rfl (by simp) (Shp.Rd.nil _ _) (by rw [List.length_append]; have := hMl.out; have := hlen.out; simp; omega) (by have := hbq.out; omega) ?_; intro A3 c3 w5 own3 ap3 lies3; have G5 : Bl wr w5 := app_bl ap3 G4 own2.lies (Nat.le_of_eq hbq.out.symm); have bx5 := bx2.bl G5; have rx5 := rx2.bl G5; have b50 := bx5.cell 0; have b51 := bx5.cell 1; have bf1 := bx5.free 1; have r50 := rx5.cell 0; have r51 := rx5.cell 1; have rf0 := rx5.free 0; have rf1 := rx5.free 1; obtain ⟨n3, hn3⟩ : ∃ n3, n3 = ((M ++ [(i, k)]) ++ []).length := ⟨_, rfl⟩; have e3 : (M ++ [(i, k)]).length + ([] : List Ik).length = n3 := (by rw [hn3]; simp only [List.length_append]); rw [e3]; replace hn3 := Lib.hid hn3; clear e3))
          have hb1 := rx2.lt
          have P5 := ((rx5.far (p := ⟨sz, 1, none⟩) (by simp) (.slice A3 n3 c3)).put 0 (.int .i64 m)).put 1 (.slice A3 n3 c3)
          have d0 := P5.cell 0
          have d1 := P5.cell 1
          simp at d0 d1
          have hbz : sz + 1 < bq := by rw [hbq.out]; exact hb1
          have own6 := ((own3.set (p := ⟨sz, 1, none⟩) (by show sz < bq; omega) (.slice A3 n3 c3)).set (p := ⟨sz + 1, 0, none⟩) hbz (.int .i64 m)).set (p := ⟨sz + 1, 1, none⟩) hbz (.slice A3 n3 c3)
          have hws := G2.size
          have G6 := (((G2.bl.trans G5).setCell (p := ⟨sz, 1, none⟩) (Nat.le_of_eq hsz.out.symm) (.slice A3 n3 c3)).setCell (p := ⟨sz + 1, 0, none⟩) (by rw [hsz.out]; exact Nat.le_succ _) (.int .i64 m)).setCell (p := ⟨sz + 1, 1, none⟩) (by rw [hsz.out]; exact Nat.le_succ _) (.slice A3 n3 c3)
          exact bodyPost_ret (v := .tuple #[.agg #[.int .i64 m, .slice A3 n3 c3], .int .i64 0]) (by simp [results, Try.results10, go_sem, d0, d1]) rfl ⟨A3, c3, by rw [hcut.out, ← hn3.out], by rw [hcut.out]; exact own6.low (by rw [hbq.out]; omega), G6⟩
        · go_wp2_with (first
            | (at_builtin; refine Shp.wp_app (S := shK) Try.underlying25 infoK rfl (by decide) rfl (.tmp 55) (.tmp 59) rfl none 0 [] rfl bq (Shp.Ow.nil _ _) (some ⟨g, 0, none⟩) c M (by rw [hMl.out]; rfl) (by simp) hRM (by have := hMl.out; have := hlen.out; simp; omega) (Nat.le_of_eq hbq.out) ?_; intro A1 c1 w3 own1 ap1 lies1; rw [List.nil_append] at own1; simp only [List.length_nil, Nat.zero_add]; replace ap1 := By.none ap1; have hs3 := Bl.size ap1)
            | (at_builtin; refine Shp.wp_app (S := shK) Try.underlying25 infoK rfl (by decide) rfl (.tmp 61) (.tmp 65) rfl A1 c1 M rfl bq (own1.bl ((Bl.refl _).alloc _)) (some ⟨w3.heap.size, 0, none⟩) 1 [(i, k)] rfl (by simp) (Shp.Rd.new1 (At.new _ _ _) rfl) (by have := hMl.out; have := hlen.out; simp; omega) (by have := hbq.out; simp; omega) ?_; intro A2 c2 w4 own2 ap2 lies2; have G4 : Bl wr w4 := app_bl ap2 (ap1.alloc _) (by rcases own1.lies with h | ⟨x, h1, h2, h3⟩; exact .inl h; exact .inr ⟨x, h1, h2, by simp; omega⟩) (Nat.le_of_eq hbq.out.symm); have b4 := (bx2.bl G4).cell 1; have hs4 := Bl.size G4; simp only [List.length_cons, List.length_nil, Nat.zero_add])
            | (at_builtin; refine Shp.wp_app (S := shK) Try.underlying25 infoK rfl (by decide) rfl (.tmp 67) (.tmp 71) rfl A2 c2 (M ++ [(i, k)]) (by rw [List.length_append]; rfl) bq own2 (some ⟨g, kk * 2, none⟩) (c - kk) N (by rw [hNl.out]; rfl) (by simp) (hRN.bl G4) (by rw [List.length_append]; have := hMl.out; have := hNl.out; have := hlen.out; simp; omega) (by have := hbq.out; omega) ?_; intro A3 c3 w5 own3 ap3 lies3; have G5 : Bl wr w5 := app_bl ap3 G4 own2.lies (Nat.le_of_eq hbq.out.symm); have bx5 := bx2.bl G5; have rx5 := rx2.bl G5; have b50 := bx5.cell 0; have b51 := bx5.cell 1; have bf1 := bx5.free 1; have r50 := rx5.cell 0; have r51 := rx5.cell 1; have rf0 := rx5.free 0; have rf1 := rx5.free 1; obtain ⟨n3, hn3⟩ : ∃ n3, n3 = ((M ++ [(i, k)]) ++ N).length := ⟨_, rfl⟩; have e3 : (M ++ [(i, k)]).length + N.length = n3 := (by rw [hn3]; simp only [List.length_append]); rw [e3]; replace hn3 := Lib.hid hn3; clear e3))
          have hb1 := rx2.lt
          have P5 := ((rx5.far (p := ⟨sz, 1, none⟩) (by simp) (.slice A3 n3 c3)).put 0 (.int .i64 m)).put 1 (.slice A3 n3 c3)
          have d0 := P5.cell 0
          have d1 := P5.cell 1
          simp at d0 d1
          have hbz : sz + 1 < bq := by rw [hbq.out]; exact hb1
          have own6 := ((own3.set (p := ⟨sz, 1, none⟩) (by show sz < bq; omega) (.slice A3 n3 c3)).set (p := ⟨sz + 1, 0, none⟩) hbz (.int .i64 m)).set (p := ⟨sz + 1, 1, none⟩) hbz (.slice A3 n3 c3)
          have hws := G2.size
          have G6 := (((G2.bl.trans G5).setCell (p := ⟨sz, 1, none⟩) (Nat.le_of_eq hsz.out.symm) (.slice A3 n3 c3)).setCell (p := ⟨sz + 1, 0, none⟩) (by rw [hsz.out]; exact Nat.le_succ _) (.int .i64 m)).setCell (p := ⟨sz + 1, 1, none⟩) (by rw [hsz.out]; exact Nat.le_succ _) (.slice A3 n3 c3)
          exact bodyPost_ret (v := .tuple #[.agg #[.int .i64 m, .slice A3 n3 c3], .int .i64 0]) (by simp [results, Try.results10, go_sem, d0, d1]) rfl ⟨A3, c3, by rw [hcut.out, ← hn3.out], by rw [hcut.out]; exact own6.low (by rw [hbq.out]; omega), G6⟩
      · obtain ⟨g', off, hga, hrow⟩ := h.rd.opened (by omega)
        injection hga with hga
        injection hga with hga1 hga2
        subst hga1 hga2
        obtain ⟨e1, e2⟩ := ik_at (hrow.bl G2.bl) hp
        rw [Nat.zero_add] at e1 e2
        have hd : decide (i < p.1) = false := by simpa using hlt
        have hz : decide (0 < (kk : Int)) = true := decide_eq_true (by omega)
        have hz' : decide (0 < kk) = true := decide_eq_true (by omega)
        have w1 : IntKind.i64.wrap ((kk : Int) - 1) = (q : Int) := by have := hlen.out; rw [IntWalk.i64_in _ (by omega)]; omega
        have hq2 : q < L.length := by omega
        clear hlo2 hrd
        replace hk2 := Lib.hid hk2
        replace hp := Lib.hid hp
        replace hlt := Lib.hid hlt
        replace hq1 := Lib.hid hq1
        by_cases hcc : c = kk
        · subst hcc
          have hLk : L.length = c := by omega
          obtain rfl : N = [] := List.eq_nil_of_length_eq_zero (by rw [hNl.out]; omega)
          go_wp2_with (first
            | (at_builtin; refine Shp.wp_app (S := shK) Try.underlying25 infoK rfl (by decide) rfl (.tmp 55) (.tmp 59) rfl none 0 [] rfl bq (Shp.Ow.nil _ _) (some ⟨g, 0, none⟩) c M (by rw [hMl.out]; rfl) (by simp) hRM (by have := hMl.out; have := hlen.out; simp; omega) (Nat.le_of_eq hbq.out) ?_; intro A1 c1 w3 own1 ap1 lies1; rw [List.nil_append] at own1; simp only [List.length_nil, Nat.zero_add]; replace ap1 := By.none ap1; have hs3 := Bl.size ap1)
            | (at_builtin; refine Shp.wp_app (S := shK) Try.underlying25 infoK rfl (by decide) rfl (.tmp 61) (.tmp 65) rfl A1 c1 M rfl bq (own1.bl ((Bl.refl _).alloc _)) (some ⟨w3.heap.size, 0, none⟩) 1 [(i, k)] rfl (by simp) (Shp.Rd.new1 (At.new _ _ _) rfl) (by have := hMl.out; have := hlen.out; simp; omega) (by have := hbq.out; simp; omega) ?_; intro A2 c2 w4 own2 ap2 lies2; have G4 : Bl wr w4 := app_bl ap2 (ap1.alloc _) (by rcases own1.lies with h | ⟨x, h1, h2, h3⟩; exact .inl h; exact .inr ⟨x, h1, h2, by simp; omega⟩) (Nat.le_of_eq hbq.out.symm); have b4 := (bx2.bl G4).cell 1; have hs4 := Bl.size G4; simp only [List.length_cons, List.length_nil, Nat.zero_add])
            | (at_builtin; refine Shp.wp_app (S := shK) Try.underlying25 infoK rfl (by decide) rfl (.tmp 67) (.tmp 71) rfl A2 c2 (M ++ [(i, k)]) (by rw [List.length_append]; rfl) bq own2 _ _ []  rfl (by simp) (Shp.Rd.nil _ _) (by rw [List.length_append]; have := hMl.out; have := hlen.out; simp; omega) (by have := hbq.out; omega) ?_; intro A3 c3 w5 own3 ap3 lies3; have G5 : Bl wr w5 := app_bl ap3 G4 own2.lies (Nat.le_of_eq hbq.out.symm); have bx5 := bx2.bl G5; have rx5 := rx2.bl G5; have b50 := bx5.cell 0; have b51 := bx5.cell 1; have bf1 := bx5.free 1; have r50 := rx5.cell 0; have r51 := rx5.cell 1; have rf0 := rx5.free 0; have rf1 := rx5.free 1; obtain ⟨n3, hn3⟩ : ∃ n3, n3 = ((M ++ [(i, k)]) ++ []).length := ⟨_, rfl⟩; have e3 : (M ++ [(i, k)]).length + ([] : List Ik).length = n3 := (by rw [hn3]; simp only [List.length_append]); rw [e3]; replace hn3 := Lib.hid hn3; clear e3))
          have hb1 := rx2.lt
          have P5 := ((rx5.far (p := ⟨sz, 1, none⟩) (by simp) (.slice A3 n3 c3)).put 0 (.int .i64 m)).put 1 (.slice A3 n3 c3)
          have d0 := P5.cell 0
          have d1 := P5.cell 1
          simp at d0 d1
          have hbz : sz + 1 < bq := by rw [hbq.out]; exact hb1
          have own6 := ((own3.set (p := ⟨sz, 1, none⟩) (by show sz < bq; omega) (.slice A3 n3 c3)).set (p := ⟨sz + 1, 0, none⟩) hbz (.int .i64 m)).set (p := ⟨sz + 1, 1, none⟩) hbz (.slice A3 n3 c3)
          have hws := G2.size
          have G6 := (((G2.bl.trans G5).setCell (p := ⟨sz, 1, none⟩) (Nat.le_of_eq hsz.out.symm) (.slice A3 n3 c3)).setCell (p := ⟨sz + 1, 0, none⟩) (by rw [hsz.out]; exact Nat.le_succ _) (.int .i64 m)).setCell (p := ⟨sz + 1, 1, none⟩) (by rw [hsz.out]; exact Nat.le_succ _) (.slice A3 n3 c3)
          exact bodyPost_ret (v := .tuple #[.agg #[.int .i64 m, .slice A3 n3 c3], .int .i64 0]) (by simp [results, Try.results10, go_sem, d0, d1]) rfl ⟨A3, c3, by rw [hcut.out, ← hn3.out], by rw [hcut.out]; exact own6.low (by rw [hbq.out]; omega), G6⟩
        · go_wp2_with (first
            | (at_builtin; refine Shp.wp_app (S := shK) Try.underlying25 infoK rfl (by decide) rfl (.tmp 55) (.tmp 59) rfl none 0 [] rfl bq (Shp.Ow.nil _ _) (some ⟨g, 0, none⟩) c M (by rw [hMl.out]; rfl) (by simp) hRM (by have := hMl.out; have := hlen.out; simp; omega) (Nat.le_of_eq hbq.out) ?_; intro A1 c1 w3 own1 ap1 lies1; rw [List.nil_append] at own1; simp only [List.length_nil, Nat.zero_add]; replace ap1 := By.none ap1; have hs3 := Bl.size ap1)
            | (at_builtin; refine Shp.wp_app (S := shK) Try.underlying25 infoK rfl (by decide) rfl (.tmp 61) (.tmp 65) rfl A1 c1 M rfl bq (own1.bl ((Bl.refl _).alloc _)) (some ⟨w3.heap.size, 0, none⟩) 1 [(i, k)] rfl (by simp) (Shp.Rd.new1 (At.new _ _ _) rfl) (by have := hMl.out; have := hlen.out; simp; omega) (by have := hbq.out; simp; omega) ?_; intro A2 c2 w4 own2 ap2 lies2; have G4 : Bl wr w4 := app_bl ap2 (ap1.alloc _) (by rcases own1.lies with h | ⟨x, h1, h2, h3⟩; exact .inl h; exact .inr ⟨x, h1, h2, by simp; omega⟩) (Nat.le_of_eq hbq.out.symm); have b4 := (bx2.bl G4).cell 1; have hs4 := Bl.size G4; simp only [List.length_cons, List.length_nil, Nat.zero_add])
            | (at_builtin; refine Shp.wp_app (S := shK) Try.underlying25 infoK rfl (by decide) rfl (.tmp 67) (.tmp 71) rfl A2 c2 (M ++ [(i, k)]) (by rw [List.length_append]; rfl) bq own2 (some ⟨g, kk * 2, none⟩) (c - kk) N (by rw [hNl.out]; rfl) (by simp) (hRN.bl G4) (by rw [List.length_append]; have := hMl.out; have := hNl.out; have := hlen.out; simp; omega) (by have := hbq.out; omega) ?_; intro A3 c3 w5 own3 ap3 lies3; have G5 : Bl wr w5 := app_bl ap3 G4 own2.lies (Nat.le_of_eq hbq.out.symm); have bx5 := bx2.bl G5; have rx5 := rx2.bl G5; have b50 := bx5.cell 0; have b51 := bx5.cell 1; have bf1 := bx5.free 1; have r50 := rx5.cell 0; have r51 := rx5.cell 1; have rf0 := rx5.free 0; have rf1 := rx5.free 1; obtain ⟨n3, hn3⟩ : ∃ n3, n3 = ((M ++ [(i, k)]) ++ N).length := ⟨_, rfl⟩; have e3 : (M ++ [(i, k)]).length + N.length = n3 := (by rw [hn3]; simp only [List.length_append]); rw [e3]; replace hn3 := Lib.hid hn3; clear e3))
          have hb1 := rx2.lt
          have P5 := ((rx5.far (p := ⟨sz, 1, none⟩) (by simp) (.slice A3 n3 c3)).put 0 (.int .i64 m)).put 1 (.slice A3 n3 c3)
          have d0 := P5.cell 0
          have d1 := P5.cell 1
          simp at d0 d1
          have hbz : sz + 1 < bq := by rw [hbq.out]; exact hb1
          have own6 := ((own3.set (p := ⟨sz, 1, none⟩) (by show sz < bq; omega) (.slice A3 n3 c3)).set (p := ⟨sz + 1, 0, none⟩) hbz (.int .i64 m)).set (p := ⟨sz + 1, 1, none⟩) hbz (.slice A3 n3 c3)
          have hws := G2.size
          have G6 := (((G2.bl.trans G5).setCell (p := ⟨sz, 1, none⟩) (Nat.le_of_eq hsz.out.symm) (.slice A3 n3 c3)).setCell (p := ⟨sz + 1, 0, none⟩) (by rw [hsz.out]; exact Nat.le_succ _) (.int .i64 m)).setCell (p := ⟨sz + 1, 1, none⟩) (by rw [hsz.out]; exact Nat.le_succ _) (.slice A3 n3 c3)
          exact bodyPost_ret (v := .tuple #[.agg #[.int .i64 m, .slice A3 n3 c3], .int .i64 0]) (by simp [results, Try.results10, go_sem, d0, d1]) rfl ⟨A3, c3, by rw [hcut.out, ← hn3.out], by rw [hcut.out]; exact own6.low (by rw [hbq.out]; omega), G6⟩
    · obtain ⟨g', off, hga, hrow⟩ := h.rd.opened (by omega)
      injection hga with hga
      injection hga with hga1 hga2
      subst hga1 hga2
      obtain ⟨e1, e2⟩ := ik_at (hrow.bl G2.bl) hp
      rw [Nat.zero_add] at e1 e2
      have hd : decide (i < p.1) = true := by simpa using hlt
      have w1 : IntKind.i64.wrap ((q : Int) + 1 - 1) = (q : Int) := by rw [IntWalk.i64_in _ (by omega)]; omega
      replace hp := Lib.hid hp
      replace hlt := Lib.hid hlt
      go_wp2
      go_roundw
      case rel => exact ⟨q, by omega, by go_num, by trivial, Lib.hid (fun j p' hj hk => by
        rcases Nat.lt_or_ge q j with hjq | hjq
        · exact hhi.out j p' hj (by omega)
        · have : j = q := by omega
          subst this; rw [hp.out] at hj; cases hj; exact hlt.out)⟩
      case measure => simp [intOf] <;> omega

end Go.Proofs.Ytdbkklhnoflbpaa
