/-
  What is proved: region.May holds for every region.
-/
import Derived.Test.YtafceieenhogpaaMy
namespace Go.Proofs.Ytafceieenhogpaa
open Go.RowKit Go.Sort

def flwB (p r : Rc) : Bool := if p.b = r.b ∧ p.d = r.d then decide (p.c < r.a) else decide (p.d ≤ r.b)

set_option maxHeartbeats 1000000 in
theorem follows1 (p r : Rc) (w : World) :
    Calls Try.prog 47 #[.agg #[.int .i64 p.a, .int .i64 p.b, .int .i64 p.c, .int .i64 p.d], .agg #[.int .i64 r.a, .int .i64 r.b, .int .i64 r.c, .int .i64 r.d]] w (Rt w (.bool (flwB p r))) := by
  obtain ⟨pa, pb, pc, pd⟩ := p
  obtain ⟨ra, rb, rc, rd⟩ := r
  unfold flwB
  dsimp only
  by_cases h1 : pb = rb
  · by_cases h2 : pd = rd
    · subst h1 h2
      rw [if_pos ⟨rfl, rfl⟩]
      go_enter Try.func47, Try.ntmps47
      go_wp2
      go_ret
      exact ⟨rfl, ((Gr.refl _).alloc _).alloc _⟩
    · rw [if_neg (fun h => h2 h.2)]
      subst h1
      have q : (pd == rd) = false := by simpa using h2
      clear h2
      go_enter Try.func47, Try.ntmps47
      go_wp2
      go_ret
      exact ⟨rfl, ((Gr.refl _).alloc _).alloc _⟩
  · rw [if_neg (fun h => h1 h.1)]
    have q : (pb == rb) = false := by simpa using h1
    clear h1
    go_enter Try.func47, Try.ntmps47
    go_wp2
    go_ret
    exact ⟨rfl, ((Gr.refl _).alloc _).alloc _⟩

theorem mayI_ex {B : List Bn} (hB : Gd B) : ∀ i, i ≤ (rectsL B).length → ∃ fr, MayI B fr i
  | 0, _ => ⟨0, .inl ⟨rfl, rfl⟩⟩
  | i + 1, h => by
    obtain ⟨fr, hM⟩ := mayI_ex hB i (by omega)
    obtain ⟨r, hr⟩ := list_at (l := rectsL B) (k := i) (by omega)
    rcases hM.next hB hr with ⟨rfl, _, h1⟩ | ⟨_, _, p, _, _, _, _, h1⟩ | ⟨_, _, p, n, _, _, _, _, _, _, _, _, h1⟩
    · exact ⟨0, h1⟩
    · exact ⟨fr, h1⟩
    · exact ⟨i, h1⟩
theorem reg_flw {B : List Bn} (hB : Gd B) {i : Nat} {p r : Rc} (hp : (rectsL B)[i]? = some p) (hr : (rectsL B)[i + 1]? = some r) : flwB p r = true := by
  obtain ⟨fr, hM⟩ := mayI_ex hB (i + 1) (by have := get_lt hr; omega)
  unfold flwB
  rcases hM.next hB hr with ⟨h0, _, _⟩ | ⟨_, _, p', hp', h1, h2, h3, _⟩ | ⟨_, _, p', n, hp', h1, h2, _, _, _, _, _, _⟩
  · omega
  · rw [show i + 1 - 1 = i from by omega, hp] at hp'
    injection hp' with hp'
    subst hp'
    rw [if_pos ⟨h1, h2⟩]; exact decide_eq_true h3
  · rw [show i + 1 - 1 = i from by omega, hp] at hp'
    injection hp' with hp'
    subst hp'
    rw [if_neg (fun h => h1 h.1)]; exact decide_eq_true h2
theorem reg_goes {B : List Bn} (hB : Gd B) {i : Nat} {p r : Bn} (hp : B[i]? = some p) (hr : B[i + 1]? = some r) : goesB p r = false := by
  have g0 := get_lt hp
  have g1 := get_lt hr
  rw [List.getElem?_eq_getElem g0] at hp
  rw [List.getElem?_eq_getElem g1] at hr
  injection hp with hp
  injection hr with hr
  have := List.pairwise_iff_getElem.1 hB.seq i (i + 1) g0 g1 (by omega)
  rw [hp, hr] at this
  unfold goesB
  exact decide_eq_false this.2
theorem band_le : ∀ (B : List Bn) (b : Bn), b ∈ B → (bandE b.y0 b.y1 b.E).length ≤ (rectsL B).length
  | [], b, h => by simp at h
  | t :: l, b, h => by
    have e : rectsL (t :: l) = bandE t.y0 t.y1 t.E ++ rectsL l := rfl
    rw [e, List.length_append]
    rcases List.mem_cons.1 h with rfl | h
    · omega
    · have := band_le l b h; omega
theorem bands_le {B : List Bn} (hB : Gd B) : B.length ≤ (rectsL B).length := by
  induction B with
  | nil => exact Nat.zero_le _
  | cons t l ih =>
    have ht := hB.cons
    have := ih ht.2.2.2
    have h2 := ht.1.2.2
    have h3 := List.length_pos_iff.2 ht.2.1
    have e : rectsL (t :: l) = bandE t.y0 t.y1 t.E ++ rectsL l := rfl
    rw [e, List.length_append, bandE_len, List.length_cons]
    omega


set_option maxRecDepth 100000 in
set_option maxHeartbeats 8000000 in
theorem mayR1 (A : Option Addr) (c : Nat) (B : List Bn) (L : List Rc) (w : World) (hA : Rs w A L) (hL : L = rectsL B) (hB : Gd B) (hl : L.length ≤ 1000000) :
    Calls Try.prog 10 #[.slice A L.length c] w (LivesQ w) := by
  have cB := fun w' h => bandsOf1 A c L w' h hl
  have hbnd : bndL L L.length = B := by rw [hL]; exact bndL_rects _ B rfl hB
  replace hL := Lib.hid hL
  replace hbnd := Lib.hid hbnd
  obtain ⟨n, hn⟩ : ∃ n, n = L.length := ⟨_, rfl⟩
  rw [← hn] at hl cB ⊢
  replace hn := Lib.hid hn
  go_enter Try.func10, Try.ntmps10
  go_wp2
  go_loopw [9] (fun iv wr => ∃ k : Nat, k ≤ n ∧ iv = .int .i64 k ∧ Bl w wr) (fun iv _ => n - (intOf iv).toNat)
  case atStart => exact ⟨0, Nat.zero_le _, rfl, Bl.refl w⟩
  case round =>
    obtain ⟨k, hk, rfl, G⟩ := hrel
    by_cases hlt : k < n
    · have hiL : k < L.length := by have := hn.out; omega
      obtain ⟨⟨ra, rb, rc, rd⟩, hr⟩ := list_at hiL
      obtain ⟨b, off, rfl, hrow⟩ := hA.opened (by omega)
      obtain ⟨e1, e2, e3, e4⟩ := (hrow.bl G) k _ hr
      dsimp only at e1 e2 e3 e4
      have hne : emptyB ra rb rc rd = false := by
        have := rects_ne hB.toWk ⟨ra, rb, rc, rd⟩ (by rw [← hL.out]; exact List.mem_of_getElem? hr)
        unfold emptyB; simp; exact this
      have c1 := fun w => empty1 ra rb rc rd w
      rw [hne] at c1
      clear hne
      have lb := World.block_lt_of_cell? _ _ e1
      have X := At.new wr #[.int .i64 ra, .int .i64 rb, .int .i64 rc, .int .i64 rd] 24
      have G1 := G.alloc (.cells #[.int .i64 ra, .int .i64 rb, .int .i64 rc, .int .i64 rd] 24)
      rcases Nat.eq_zero_or_pos k with h0 | h0
      · subst h0
        simp only [Nat.zero_mul, Nat.add_zero] at e1 e2 e3 e4
        replace hr := Lib.hid hr
        go_wp2
        obtain ⟨V, hV⟩ : ∃ V, V = wr.alloc (.cells #[.int .i64 ra, .int .i64 rb, .int .i64 rc, .int .i64 rd] 24) := ⟨_, rfl⟩
        rw [← hV] at X G1 ⊢
        clear hV e1 e2 e3 e4
        have x0 := fun n os => X.cells n os 0; have x1 := fun n os => X.cells n os 1; have x2 := fun n os => X.cells n os 2; have x3 := fun n os => X.cells n os 3
        simp at x0 x1 x2 x3
        refine wp_region_quiet_grown (by kernel_rfl) (by kernel_rfl) ?_
        repeat (first | go_big_quiet_step ((go_at_call 46; exact Calls.grown (c1 _))) | quiet_step ((go_at_call 46; exact Calls.grown (c1 _))))
        refine wpQuiet_nil ?_
        intro W5 g9
        replace g9 : Gr _ W5 := g9
        clear x0 x1 x2 x3
        go_wp2
        go_roundw
        case rel => exact ⟨0 + 1, by omega, by go_num, G1.trans g9.bl⟩
        case measure => simp [intOf]; omega
      · obtain ⟨m, rfl⟩ : ∃ m, k = m + 1 := ⟨k - 1, by omega⟩
        obtain ⟨⟨pa, pb, pc, pd⟩, hp⟩ := list_at (l := L) (k := m) (by omega)
        have hf := reg_flw hB (by rw [← hL.out]; exact hp) (by rw [← hL.out]; exact hr)
        have c2 := fun w => follows1 ⟨pa, pb, pc, pd⟩ ⟨ra, rb, rc, rd⟩ w
        rw [hf] at c2
        dsimp only at c2
        clear hf
        have E := fun n os => (hrow.bl ((G1.drewN n).grow os)) m _ hp
        have E1 := fun n os => (E n os).1
        have E2 := fun n os => (E n os).2.1
        have E3 := fun n os => (E n os).2.2.1
        have E4 := fun n os => (E n os).2.2.2
        clear E
        dsimp only at E1 E2 E3 E4
        replace hr := Lib.hid hr
        replace hp := Lib.hid hp
        have hm : (m : Int) < n := by omega
        have q1 : IntKind.i64.wrap ((m : Int) + 1 - 1) = (m : Int) := by rw [show (m : Int) + 1 - 1 = (m : Int) from by omega]; exact IntWalk.i64_in _ (by omega)
        go_wp2
        obtain ⟨V, hV⟩ : ∃ V, V = wr.alloc (.cells #[.int .i64 ra, .int .i64 rb, .int .i64 rc, .int .i64 rd] 24) := ⟨_, rfl⟩
        rw [← hV] at X G1 E1 E2 E3 E4 ⊢
        clear hV e1 e2 e3 e4
        have x0 := fun n os => X.cells n os 0; have x1 := fun n os => X.cells n os 1; have x2 := fun n os => X.cells n os 2; have x3 := fun n os => X.cells n os 3
        simp at x0 x1 x2 x3
        refine wp_region_quiet_grown (by kernel_rfl) (by kernel_rfl) ?_
        repeat (first | go_big_quiet_step (first | (go_at_call 46; exact Calls.grown (c1 _)) | (go_at_call 47; exact Calls.grown (c2 _))) | quiet_step (first | (go_at_call 46; exact Calls.grown (c1 _)) | (go_at_call 47; exact Calls.grown (c2 _))))
        refine wpQuiet_nil ?_
        intro W5 g9
        replace g9 : Gr _ W5 := g9
        clear x0 x1 x2 x3 E1 E2 E3 E4
        go_wp2
        go_roundw
        case rel => exact ⟨m + 1 + 1, by omega, by go_num, G1.trans g9.bl⟩
        case measure => simp [intOf]; omega
    · obtain rfl : k = n := by omega
      go_wp2_with fail
      refine (cB _ (hA.bl G)).mono ?_
      rintro e W1 ⟨A1, cb, bs, rfl, own, hbs, g1⟩
      rw [hbnd.out] at hbs
      obtain ⟨hBs, hcb⟩ := own.bs
      have G1 := G.trans g1
      obtain ⟨nb, hnb⟩ : ∃ nb, nb = bs.length := ⟨_, rfl⟩
      have hble : nb ≤ 1000000 := by
        have h1 := bands_le hB
        rw [← hbs, List.length_map, hbs, ← hL.out, ← hnb] at h1
        have := hn.out; omega
      have hEl : ∀ r ∈ bs, r.E.length ≤ 9223372036854775807 := fun r hr => by
        have hm : r.bn ∈ B := by rw [← hbs]; exact List.mem_map_of_mem hr
        have h1 := band_le B r.bn hm
        rw [bandE_len, ← hL.out] at h1
        have := hn.out
        have e : r.bn.E = r.E := rfl
        rw [e] at h1
        omega
      rw [← hnb] at hcb ⊢
      replace hbs := Lib.hid hbs
      replace hEl := Lib.hid hEl
      replace hnb := Lib.hid hnb
      clear own g1 G cB
      go_wp2
      go_loopw [35] (fun iv w2 => ∃ k2 : Nat, k2 ≤ nb ∧ iv = .int .i64 k2 ∧ Bl W1 w2) (fun iv _ => nb - (intOf iv).toNat)
      case atStart => exact ⟨0, Nat.zero_le _, rfl, Bl.refl W1⟩
      case round =>
        obtain ⟨k2, hk2, rfl, G2⟩ := hrel
        by_cases hlt2 : k2 < nb
        · rcases Nat.eq_zero_or_pos k2 with h0 | h0
          · subst h0
            go_wp2
            refine wp_region_quiet_grown (by kernel_rfl) (by kernel_rfl) ?_
            repeat (first | go_big_quiet_step (fail) | quiet_step (fail))
            refine wpQuiet_nil ?_
            intro W5 g9
            replace g9 : Gr _ W5 := g9
            go_wp2
            go_roundw
            case rel => exact ⟨0 + 1, by omega, by go_num, G2.trans g9.bl⟩
            case measure => simp [intOf]; omega
          · obtain ⟨m, rfl⟩ : ∃ m, k2 = m + 1 := ⟨k2 - 1, by omega⟩
            obtain ⟨p, hp⟩ := list_at (l := bs) (k := m) (by have := hnb.out; omega)
            obtain ⟨r, hr⟩ := list_at (l := bs) (k := m + 1) (by have := hnb.out; omega)
            obtain ⟨b2, o2, hA2, hrow2⟩ := hBs.opened (by have := hnb.out; omega)
            subst hA2
            have hg := reg_goes hB (i := m) (p := p.bn) (r := r.bn) (by rw [← hbs.out, List.getElem?_map, hp]; rfl) (by rw [← hbs.out, List.getElem?_map, hr]; rfl)
            have okp := hBs.2 p (List.mem_of_getElem? hp)
            have okr := hBs.2 r (List.mem_of_getElem? hr)
            have lp := hEl.out p (List.mem_of_getElem? hp)
            have lr := hEl.out r (List.mem_of_getElem? hr)
            have c3 : ∀ n os, Calls Try.prog 49 #[.agg #[.int .i64 p.y0, .int .i64 p.y1, .slice p.A p.E.length p.c], .agg #[.int .i64 r.y0, .int .i64 r.y1, .slice r.A r.E.length r.c]] _ _ := fun n os => goesOn1 p r (Go.Sort.grow (World.drewN wr n) os) (okp.bl ((G2.drewN n).grow os)) (okr.bl ((G2.drewN n).grow os)) lp lr
            rw [hg] at c3
            have E := fun n os => (hrow2.bl ((G2.drewN n).grow os)).at_ hp
            have F := fun n os => (hrow2.bl ((G2.drewN n).grow os)).at_ hr
            have E1 := fun n os => (E n os).1
            have E2 := fun n os => (E n os).2.1
            have E3 := fun n os => (E n os).2.2
            have F1 := fun n os => (F n os).1
            have F2 := fun n os => (F n os).2.1
            have F3 := fun n os => (F n os).2.2
            replace hp := Lib.hid hp
            replace hr := Lib.hid hr
            have hm : (m : Int) < nb := by omega
            have hm1 : (m : Int) + 1 < nb := by omega
            have q1 : IntKind.i64.wrap ((m : Int) + 1 - 1) = (m : Int) := by rw [show (m : Int) + 1 - 1 = (m : Int) from by omega]; exact IntWalk.i64_in _ (by omega)
            clear E F hg okp okr lp lr
            go_wp2
            refine wp_region_quiet_grown (by kernel_rfl) (by kernel_rfl) ?_
            repeat (first | go_big_quiet_step ((go_at_call 49; exact Calls.grown (c3 _ _))) | quiet_step ((go_at_call 49; exact Calls.grown (c3 _ _))))
            refine wpQuiet_nil ?_
            intro W5 g9
            replace g9 : Gr _ W5 := g9
            clear E1 E2 E3 F1 F2 F3 c3
            go_wp2
            go_roundw
            case rel => exact ⟨m + 1 + 1, by omega, by go_num, G2.trans g9.bl⟩
            case measure => simp [intOf]; omega
        · go_wp2
          go_ret
          exact ⟨rfl, G1.trans G2⟩


end Go.Proofs.Ytafceieenhogpaa
