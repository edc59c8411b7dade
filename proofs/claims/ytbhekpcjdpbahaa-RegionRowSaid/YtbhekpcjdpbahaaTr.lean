/-
  What is proved: the statement RegionRow: rectangles may be handed in in any row, and more than once: the region is the same. No conditions.
-/
import Derived.Test.YtbhekpcjdpbahaaMz
import Derived.Test.YtbhekpcjdpbahaaYr
namespace Go.Proofs.Ytbhekpcjdpbahaa
open Go.ChangeShapes Go.WideShapes Go.ChangeAt Go.RowKit Go.Joins Go.Sort Go.Deep

theorem OwR.capm {w : World} {B : Nat} {A : Option Addr} {c : Nat} {L : List Rc} (h : OwR w B A c L) : c ≤ 9223372036854775807 := by
  rcases h.2 with ⟨h1, h2⟩ | ⟨g, cap, cur, h1, _, _, _, h4, _⟩
  · injection h1 with a b c'; omega
  · injection h1 with a b c'; unfold maxLen at h4; omega
/-- Each twice, from the end. -/
def dbl (M : List Rc) : List Rc := M.reverse.flatMap fun r => [r, r]
theorem dbl_drop {g : List Rc} {j : Nat} {r : Rc} (h : g[j]? = some r) : dbl (g.drop j) = dbl (g.drop (j + 1)) ++ [r, r] := by
  have hj : j < g.length := by
    rcases Nat.lt_or_ge j g.length with h' | h'
    · exact h'
    · rw [List.getElem?_eq_none h'] at h; cases h
  rw [List.getElem?_eq_getElem hj] at h
  have e : g[j] = r := by injection h
  unfold dbl
  rw [List.drop_eq_getElem_cons hj, e, List.reverse_cons, List.flatMap_append]
  rfl
theorem dbl_mem {g : List Rc} {r : Rc} (h : r ∈ dbl g) : r ∈ g := by
  unfold dbl at h
  rw [List.mem_flatMap] at h
  obtain ⟨a, h1, h2⟩ := h
  simp at h2
  subst h2
  simpa using h1
theorem dbl_len (g : List Rc) : (dbl g).length = 2 * g.length := by
  unfold dbl
  rw [List.length_flatMap]
  have : ∀ l : List Rc, (l.map fun _ => 2).sum = 2 * l.length := by
    intro l
    induction l with
    | nil => rfl
    | cons a l ih => simp [ih]; omega
  have e : (fun r : Rc => [r, r].length) = fun _ => 2 := rfl
  rw [e, this, List.length_reverse]
theorem dbl_has (g : List Rc) (x y : Int) : hasL (dbl g) x y = hasL g x y := by
  unfold hasL
  rw [Bool.eq_iff_iff, List.any_eq_true, List.any_eq_true]
  constructor
  · rintro ⟨r, h1, h2⟩; exact ⟨r, dbl_mem h1, h2⟩
  · rintro ⟨r, h1, h2⟩
    refine ⟨r, ?_, h2⟩
    unfold dbl
    rw [List.mem_flatMap]
    exact ⟨r, by simpa using h1, by simp⟩

set_option maxRecDepth 100000 in
set_option maxHeartbeats 16000000 in
theorem row_core (A : Option Addr) (ca : Nat) (a : List Rc) (w : World) (hA : Rs w A a) (ia : I64r a) (la : a.length ≤ 9223372036854775807) :
    Calls Try.prog 10 #[.slice A a.length ca] w (LivesQ w) := by
  go_enter Try.func10, Try.ntmps10
  go_wp2_with fail
  refine (refSmall1 A ca a 7 w hA ia la (by omega)).mono ?_
  rintro e W1 ⟨A1, c1, g, rfl, o1, hg, g1⟩
  have gne : InNe near near g := by rw [hg]; exact small_near _
  have gl : g.length ≤ 7 := by rw [hg, List.length_map, List.length_take]; omega
  clear hg
  have gc := o1.cap
  have gm := o1.capm
  have r_g := o1.rs
  have lies := o1.lies
  clear o1
  obtain ⟨n, hn⟩ : ∃ n, n = g.length := ⟨_, rfl⟩
  rw [← hn] at gl gc ⊢
  replace hn := Lib.hid hn
  have q0 : IntKind.i64.wrap ((n : Int) - 1) = (n : Int) - 1 := IntWalk.i64_in _ (by omega)
  go_wp2
  go_loopw [4, 5] (fun v iv wr => ∃ (z : Int) (k : Nat) (A' : Option Addr) (c' : Nat) (O : List Rc), iv = .int .i64 z ∧ Hid (z + 1 = k) ∧ k ≤ n ∧ v = .slice A' O.length c' ∧ OwR wr W1.heap.size A' c' O ∧ Hid (O = dbl (g.drop k)) ∧ Bl W1 wr) (fun _ iv _ => (intOf iv + 1).toNat)
  case atStart => exact ⟨(n : Int) - 1, n, none, 0, [], by go_num, Lib.hid (by omega), Nat.le_refl _, rfl, OwR.nil _ _, Lib.hid (by rw [hn.out, List.drop_length]; rfl), Bl.refl _⟩
  case round =>
    obtain ⟨z, k, A', c', O, rfl, hz, hk, rfl, own, hO, G⟩ := hrel
    have hzb : -1 ≤ z ∧ z ≤ 6 := by have := hz.out; omega
    obtain ⟨hzb1, hzb2⟩ := hzb
    by_cases hneg : z < 0
    · have hk0 : k = 0 := by have := hz.out; omega
      have hOg : O = dbl g := by rw [hO.out, hk0, List.drop_zero]
      clear hO hz
      have hol : O.length ≤ 14 := by rw [hOg, dbl_len, ← hn.out]; omega
      have one : InNe near near O := fun r hr => gne r (dbl_mem (by rw [← hOg]; exact hr))
      have oc := own.cap
      have om := own.capm
      have G1 := g1.trans G
      have r_b := own.rs
      replace r_g := r_g.bl G
      clear own hk0 hk
      replace hOg := Lib.hid hOg
      have cO := fun w' h => of1 7 A1 c1 g near near w' (by have := hn.out; omega) (by have := hn.out; omega) (by have := hn.out; omega) gm h grid_near gne
      rw [← hn.out] at cO
      go_wp2_with fail
      refine (cO _ r_g).mono ?_
      rintro e W2 ⟨A2, c2, t, rfl, o2, q2, g2⟩
      replace r_b := r_b.bl g2
      have G2 := G1.trans g2
      have r_t := o2.rs
      have tc := o2.cap
      have tm := o2.capm
      clear o2 g2
      go_wp2_with fail
      refine (of1 14 A' c' O near near _ hol (by omega) oc om r_b grid_near one).mono ?_
      rintro e W3 ⟨A3, c3, u, rfl, o3, q3, g3⟩
      replace r_t := r_t.bl g3
      have G3 := G2.trans g3
      have r_u := o3.rs
      clear o3 g3
      have e1 : t = u := reg_same q2.reg q3.reg fun x y => by rw [q2.has, q3.has, hOg.out, dbl_has]
      replace e1 := Lib.hid e1
      have tl := reg_len q2.reg q2.inr grid_near
      go_wp2_with fail
      refine (same1t A2 A3 c2 c3 t u _ r_t r_u (by omega) e1.out).mono ?_
      rintro e W4 ⟨rfl, g4⟩
      replace g4 := g4.bl
      replace r_t := r_t.bl g4
      have G4 := G3.trans g4
      clear g4
      go_wp2_with fail
      refine (of1 t.length A2 c2 t near near _ (Nat.le_refl _) (by omega) tc tm r_t grid_near q2.inr.ne).mono ?_
      rintro e W5 ⟨A5, c5, v, rfl, o5, q5, g5⟩
      replace r_t := r_t.bl g5
      have G5 := G4.trans g5
      have r_v := o5.rs
      clear o5 g5
      have e2 : t = v := reg_same q2.reg q5.reg fun x y => by rw [q5.has]
      replace e2 := Lib.hid e2
      go_wp2_with fail
      refine (same1t A2 A5 c2 c5 t v _ r_t r_v (by omega) e2.out).mono ?_
      rintro e W6 ⟨rfl, g6⟩
      replace g6 := g6.bl
      replace r_t := r_t.bl g6
      have G6 := G5.trans g6
      clear g6
      obtain ⟨gd, eb⟩ := q2.reg.bands
      go_wp2_with fail
      refine (refmayT A2 c2 _ t _ r_t eb.symm gd (by omega) tc tm).mono ?_
      rintro e W7 ⟨rfl, g7⟩
      have G7 := G6.trans g7
      clear g7
      go_wp2_with fail
      refine (lives1 _).mono ?_
      rintro e W8 ⟨rfl, g8⟩
      go_wp2
      go_ret
      exact ⟨rfl, G7.trans g8⟩
    · obtain ⟨j, rfl⟩ := Int.eq_ofNat_of_zero_le (show 0 ≤ z by omega)
      have hj : j < n := by have := hz.out; omega
      obtain ⟨r, hr⟩ := list_at (show j < g.length by rw [← hn.out]; exact hj)
      obtain ⟨b, off, hA1, hrow⟩ := r_g.opened (by have := hn.out; omega)
      obtain ⟨e1, e2, e3, e4⟩ := (hrow.bl G) j r hr
      have hdr := Lib.hid (dbl_drop hr)
      have hlO : O.length ≤ 100 := by rw [hO.out, dbl_len, List.length_drop]; have := hn.out; omega
      have lb : b < W1.heap.size := by
        obtain ⟨f1, _⟩ := hrow j r hr
        exact World.block_lt_of_cell? _ _ f1
      have sz := G.size
      have ne1 : some b ≠ A'.map (·.block) := by
        rcases own.lies with rfl | ⟨g', rfl, h1, _⟩
        · simp
        · simp; omega
      clear hr hrow
      subst hA1
      have own1 := (own.bl ((Bl.refl wr).alloc (.cells #[.int .i64 r.a, .int .i64 r.b, .int .i64 r.c, .int .i64 r.d, .int .i64 r.a, .int .i64 r.b, .int .i64 r.c, .int .i64 r.d] 23))).bl (Bl.refl _).drew
      have hj2 : j < 8 := by omega
      have hk2 : k = j + 1 := by have := hz.out; omega
      rw [hk2] at hO
      have hc1 : n ≤ c1 := gc
      clear hk hk2 gc hz lies
      go_wp2
      go_region_held3 (fun w' => w'.cell? ⟨b, off + j * 4, none⟩ = some (.int .i64 r.a) ∧ w'.cell? ⟨b, off + j * 4 + 1, none⟩ = some (.int .i64 r.b) ∧ w'.cell? ⟨b, off + j * 4 + 2, none⟩ = some (.int .i64 r.c) ∧ w'.cell? ⟨b, off + j * 4 + 3, none⟩ = some (.int .i64 r.d))
        (first
          | go_keep
          | (refine ⟨?_, ?_, ?_, ?_⟩
             · (rw [ap3.1.cell_far _ (by simp; omega) ne1]; simp [*])
             · (rw [ap3.1.cell_far _ (by simp; omega) ne1]; simp [*])
             · (rw [ap3.1.cell_far _ (by simp; omega) ne1]; simp [*])
             · (rw [ap3.1.cell_far _ (by simp; omega) ne1]; simp [*])))
        ((refine step_app_rr (by rfl) (.tmp 16) (.tmp 25) (by rfl) A' c' O (by rfl) W1.heap.size own1 wr.heap.size r r 2 (by rfl) (At.drew (At.new wr _ _)) (by omega) (by simp; omega) ?_; intro A3 c3 w3' own5 ap3))
      clear e1 e2 e3 e4
      go_wp2
      go_roundw
      case rel => exact ⟨(j : Int) - 1, j, A3, c3, O ++ [r, r], by go_num, Lib.hid (by omega), by omega, by simp, own5, Lib.hid (by rw [hdr.out, hO.out]), ap3.bl ((G.alloc _).drew) own1.lies (by simp)⟩
      case measure => simp [intOf]


set_option maxRecDepth 100000 in
theorem regionRow_lifted (os : Os) (started : os.Started) (H : Type) (enc : TypeId × Value → H) :
    ReturnsInHanded {} Try.checked os 10 .any (Rows.regionRowSpec.pre6 enc Try.prog Try.f10 Rows.regionRowRow.domain false) (Rows.regionRowSpec.post enc Try.prog Try.f10 false true false false) := by
  refine returnsInHanded_of_change (C := Try.checked) own started (by kernel_rfl) Try.func10
    (ChangeSpec.witness6 (enc := enc) (C := Try.checked) false ⟨#[], #[.slice none 0 0], []⟩ 8 (by kernel_rfl) (by kernel_rfl) (by kernel_rfl) (by kernel_rfl)) ?_
  intro W base args ds gs before hval0 hW hcnd _
  have hval : ∀ (j : Nat) t v, Try.f10.params[j]? = some t → args[j]? = some v → Value.okWide Try.prog W .any base t v := hval0
  have hW' := hW
  obtain ⟨p, q, hA0, hV, rfl, hfz, hnd⟩ := hW
  have hA : DataW.TrodAll enc Try.prog W 0 (fun _ => true) true Try.f10.params.toList args.toList ds p := hA0
  rw [Try.params10] at hA hval
  obtain ⟨v0, vs0, d0, ds0, p0, q0, hargs, rfl, rfl, h0, r0⟩ := trodAll_cons hA
  obtain ⟨rfl, rfl, rfl⟩ := trodAll_nil r0
  obtain rfl : args = #[v0] := by cases args; simp_all
  obtain ⟨rfl, rfl⟩ := trodVars_none hV
  obtain ⟨A0, c0, L0, rfl, hc0, hm0, hr0, hI0⟩ := open_rects (hval 0 35 v0 rfl rfl) h0
  unfold maxLen at hm0
  clear hA0 hval0
  simp only [List.append_nil] at hW'
  have hlt := hW'.lt
  refine (row_core A0 c0 L0 W hr0 hI0 (by omega)).mono fun e W' ⟨he, hb⟩ => ?_
  subst he
  exact ⟨_, rfl, close_below (pa := p0) (pv := []) hW' (fun _ _ _ => (trodAll_cons_mk (shut_bool Try.underlying4 _) trodAll_mk0)) (fun sp hsp => by
      have := (trodAll_cons_mk (WideElems.Trod_stays laidOut (by kernel_rfl) (of_decide_eq_true (by kernel_rfl)) h0 (fun x hx => Below.same hb (hlt x (by simp [hx]))) (sp' := sp) (fun x hx => hsp x (by simp [hx]))) trodAll_mk0)
      simp only [List.append_nil] at this
      exact this)
    (fun _ _ => rfl) (by simp) hb (ok_one (by kernel_rfl) rfl (okWide_bool_mk Try.underlying4 _))⟩

theorem regionRow_holds : Rows.RegionRowSaid :=
  OpenClaim.holds_of_wide 10 Try.f10 rfl rfl rfl rfl rfl rfl rfl ⟨rfl, rfl, rfl, rfl, rfl⟩ rfl rfl rfl rfl rfl (by kernel_rfl) Try.func10 (by kernel_rfl)
    (of_decide_eq_true (by kernel_rfl)) (by unfold Func.isWrapper; first | (rw [if_pos (by decide +kernel)]; kernel_rfl) | (rw [if_neg (by decide +kernel)]; exact ⟨rfl, rfl⟩))
    (fun os started H enc _ => regionRow_lifted os started H enc)

#print axioms regionRow_holds

end Go.Proofs.Ytbhekpcjdpbahaa
