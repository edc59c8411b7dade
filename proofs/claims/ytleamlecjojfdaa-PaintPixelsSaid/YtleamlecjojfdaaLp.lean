/-
  What is proved: the statement PaintPixels: colors, one over the other, are the document's; a solid one hides all under it. No conditions.
-/
import Derived.Test.YtleamlecjojfdaaNa
import Derived.Test.YtleamlecjojfdaaZm
import Derived.Test.YtleamlecjojfdaaZi
import Derived.Test.YtleamlecjojfdaaZa
namespace Go.Proofs.Ytleamlecjojfdaa
open Go.ChangeShapes Go.WideShapes Go.ChangeAt Go.RowKit Go.Joins Go.Sort Go.Deep

theorem ov_black0 {x : Int} (y : Int) : ov 4278190080 x = ov 4278190080 y := by
  have h := fun z => ov_solid (r := 0) (g := 0) (b := 0) z (by unfold By; omega) (by unfold By; omega) (by unfold By; omega)
  rw [show mk 255 0 0 0 = 4278190080 from by decide] at h
  rw [h x, h y]
theorem pix_hidden (c d : Int) (L : List Int) : pixL c (4278190080 :: L) = pixL d (4278190080 :: L) := by
  show pixL (ov 4278190080 c) L = pixL (ov 4278190080 d) L
  rw [ov_black0 d]
theorem pixL_snoc (c : Int) (L : List Int) (d : Int) : pixL c (L ++ [d]) = ov d (pixL c L) := by simp [pixL]
theorem take_gd {L : List Int} {k : Nat} {d : Int} (h : L[k]? = some d) : (L.take (k + 1)).map gd = (L.take k).map gd ++ [gd d] := by
  rw [List.take_add_one, h]; simp

/-- A slice without elements, appended to a row of the call's own. -/
theorem run_app_none {w : World} {B : Nat} {t ty e : TypeId} {i : TypeInfo} {size : Nat} (ht : Try.prog.underlying t = some (.slice e)) (hi : Try.prog.info? e = some i)
    {v : Value} {n : Nat} {xs : List Value} (hown : w.ownsRow B e size v n xs) (a : Option Addr) (c : Nat) (hac : a = none → c = 0) :
    (Builtin.append_ #[t, t] ty #[v, .slice a 0 c]).run Try.prog w = .ok v w := by
  cases a with
  | none => obtain rfl := hac rfl; exact run_append_owned_none w B t ty e i size ht hi v n xs hown
  | some a =>
    have hl : (loadCells a 0).run Try.prog w = .ok #[] w := by simpa using run_loadCells_list (P := Try.prog) w a [] (by simp)
    rcases hown.2 with ⟨rfl, rfl⟩ | ⟨g, cap, cur, rfl, _, _, hnc, _⟩
    · simp [Builtin.append_, run_underlying ht, sizeOf, typeInfo, hi, Builtin.lenOf, Builtin.firstCells, hl]
    · simp [Builtin.append_, run_underlying ht, sizeOf, typeInfo, hi, Builtin.lenOf, Builtin.firstCells, hl, hnc, storeCells]
theorem wp_app_nn {k : IntKind} {t e : TypeId} {z : Value} {bs : Nat} (ht : Try.prog.underlying t = some (.slice e)) (hinfo : (Try.prog.info? e).map (fun i => (i.zero, i.size, i.bytes)) = some (some z, 1, bs)) (hz : z.cells.size = 1) (hbs : bs ≤ 8)
    {ops : Array Oper} {rest : List Oper} {o : Oper} {a : Act} {w : World} {Q : Exit → Act → World → Prop} (hgd : o.guard = none) (s x : Operand)
    (ho : o.op = .call { callee := .builtin .append, args := #[s, x], argTypes := #[t, t] }) (A : Option Addr) (c : Nat) (L : List Int) (hs : a.eval s = .slice A L.length c) (B : Nat) (hown : OwN k e w B A c L)
    (A0 : Option Addr) (M : List Int) (c0 : Nat) (hx : a.eval x = .slice A0 M.length c0) (hM : Ns k w A0 M) (hac : A0 = none → c0 = 0) (hlen : L.length + M.length ≤ 1000000000000) (hB : B ≤ w.heap.size)
    (h : ∀ A' c' w', OwN k e w' B A' c' (L ++ M) → ApdN w w' A → wpList Try.prog ops Q rest (a.put o.dst (.slice A' (L.length + M.length) c')) w') :
    wpList Try.prog ops Q (o :: rest) a w := by
  obtain ⟨i0, hi, _⟩ := info_parts hinfo
  rcases Nat.eq_zero_or_pos M.length with hm | hm
  · have hM0 : M = [] := List.eq_nil_of_length_eq_zero hm
    subst hM0
    have hr := run_app_none (w := w) (ty := o.type) ht hi hown A0 c0 hac
    refine wpList_plain hgd fun K hK => ?_
    unfold Oper.wp execOp
    simp only [List.length_nil] at hx hr
    simp only [ho, resolve, invoke, builtin, Sem.run_bind, Sem.run_pure, Result.andThen_ok, List.map_toArray, List.map_cons, List.map_nil, hs, hx, hr]
    exact hK _ _ (h A c w (by rw [List.append_nil]; exact hown) ⟨rfl, rfl, rfl, Nat.le_refl _, fun _ _ _ => rfl⟩)
  · obtain ⟨b, off, rfl, hrow⟩ := hM.opened hm
    exact wp_app_n ht hinfo hz hbs hgd s x ho A c L hs B hown b off M c0 hx hrow hm hlen hB (fun A' c' w' h1 h2 _ => h A' c' w' h1 h2)
theorem OwN.ns {k : IntKind} {e : TypeId} {w : World} {B : Nat} {A : Option Addr} {c : Nat} {L : List Int} (h : OwN k e w B A c L) : Ns k w A L := by
  rcases h.addr with ⟨_, _, h3⟩ | ⟨g, rfl, _, _⟩
  · exact .inl h3
  · exact .inr ⟨g, 0, rfl, h.row⟩
theorem OwN.nocap {k : IntKind} {e : TypeId} {w : World} {B : Nat} {A : Option Addr} {c : Nat} {L : List Int} (h : OwN k e w B A c L) (hA : A = none) : c = 0 := by
  rcases h.addr with ⟨_, h2, _⟩ | ⟨g, h1, _, _⟩
  · exact h2
  · rw [hA] at h1; cases h1

set_option maxRecDepth 100000 in
set_option maxHeartbeats 4000000 in
theorem ppixels_walk (c : Int) (A : Option Addr) (cap : Nat) (L : List Int) (w : World) (hc : C32 c) (hlc : L.length ≤ cap) (hcm : cap ≤ maxLen) (hA : Ns .u32 w A L) (h32 : ∀ c ∈ L, C32 c) :
    Calls Try.prog 13 #[.int .u32 c, .slice A L.length cap] w (fun e w' => e = .returned (.bool true) ∧ Bl w w') := by
  have c1 := fun w => cgood1 c w hc
  have ho := gd_c32 c
  generalize gd c = own at *
  unfold maxLen at hcm
  obtain ⟨n, hn⟩ : ∃ n, n = L.length := ⟨_, rfl⟩
  rw [← hn] at hlc ⊢
  have hn8 : n ≤ 9223372036854775807 := by omega
  replace hn := Lib.hid hn
  have H32 := Lib.hid h32
  clear h32 hlc hcm
  go_enter Try.func13, Try.ntmps13
  go_wp2_with fail
  refine (c1 _).mono ?_
  rintro e w1 ⟨rfl, g1⟩
  go_wp2_with fail
  go_loopw [6, 7, 8] (fun v x i wr => ∃ (k : Nat) (A' : Option Addr) (c' : Nat) (O : List Int) (q : Int), k ≤ n ∧ k ≤ 8 ∧ v = .slice A' O.length c' ∧ x = .int .u32 q ∧ i = .int .i64 k ∧ Hid (O.length = k) ∧ Hid (q = pixL own O) ∧ C32 q ∧ Hid (∀ d ∈ O, C32 d) ∧ OwN .u32 39 wr w.heap.size A' c' O ∧ Bl w wr)
    (fun _ _ i _ => n - (intOf i).toNat)
  case atStart => exact ⟨0, none, 0, [], own, Nat.zero_le _, by omega, rfl, rfl, rfl, Lib.hid rfl, Lib.hid rfl, ho, Lib.hid (by simp), OwN.nil _ _ _ _, g1.bl⟩
  case round =>
    obtain ⟨k, A', c', O, q, hk, hk8, rfl, rfl, rfl, hO, hq, hq32, hO32, own', G⟩ := hrel
    by_cases hlt : k < n ∧ k < 8
    · obtain ⟨hlt, hlt8⟩ := hlt
      obtain ⟨d, hd⟩ := list_at (show k < L.length by rw [← hn.out]; exact hlt)
      obtain ⟨b, off, rfl, hrow⟩ := hA.opened (by have := hn.out; omega)
      have e1 := (hrow.bl G) k _ hd
      have hd32 := H32.out d (get_of hd).1
      have cg := fun w => cgood1 d w hd32
      have hgd := gd_c32 d
      generalize gd d = z at *
      have c2 := fun w => refover1 z q w hgd hq32
      clear hd hd32
      go_wp2_with fail
      refine (cg _).mono ?_
      rintro e w2 ⟨rfl, g2⟩
      replace own' := own'.gr g2
      replace G := G.gr g2
      clear g2 e1
      have sz := G.size
      go_wp2_with (at_builtin; refine wp_app_n (bs := 4) Try.underlying31 infoC rfl (by decide) rfl (.tmp 29) (.tmp 31) rfl A' c' O (by first | rfl | simp) w.heap.size (own'.gr ((Gr.refl w2).alloc _)) w2.heap.size 0 [z] 1 (by first | rfl | simp) (row_one (At.new w2 #[.int .u32 z] 39)) (by simp) (by have := hO.out; simp; omega) (by simp; omega) ?_; rintro A3 c3 w3 own5 ap3 ⟨g5, rfl⟩)
      have G3 := ap3.bl (G.alloc _) (own'.gr ((Gr.refl w2).alloc _)) (Nat.le_refl _)
      go_wp2_with fail
      refine (c2 _).mono ?_
      rintro e w4 ⟨rfl, g4⟩
      go_wp2
      go_roundw
      case rel => exact ⟨k + 1, _, c3, O ++ [z], ov z q, by omega, by omega, by simp, rfl, by go_num, Lib.hid (by have := hO.out; simp; omega), Lib.hid (by rw [pixL_snoc, hq.out]), ov_c32 _ _, Lib.hid (by intro x hx; rw [List.mem_append, List.mem_singleton] at hx; rcases hx with hx | rfl; exact hO32.out x hx; exact hgd), own5.gr g4, G3.gr g4⟩
      case measure => simp [intOf]; omega
    · have hkk : k = n ∨ (k < n ∧ k = 8) := by omega
      have hlO : O.length ≤ 8 := by have := hO.out; omega
      have bD : ∀ w' : World, OwN .u32 39 (w'.alloc (.cells #[.int .u32 4278190080] 39)) w'.heap.size (some ⟨w'.heap.size, 0, none⟩) 1 [4278190080] := fun w' =>
        ⟨rfl, .inr ⟨w'.heap.size, 1, #[.int .u32 4278190080], rfl, Nat.le_refl _, heap_alloc_new w' _, Nat.le_refl _, by unfold maxLen; omega, rfl, rfl⟩⟩
      have cP1 := fun w (h : Ns .u32 w A' O) => pix1 own A' c' O w h (by omega) ho hO32.out
      rw [← hq.out] at cP1
      have hD : ∀ d ∈ 4278190080 :: O, C32 d := by
        intro d hd
        rw [List.mem_cons] at hd
        rcases hd with rfl | hd
        · unfold C32; omega
        · exact hO32.out d hd
      have cP2 := fun A5 c5 w (h : Ns .u32 w A5 (4278190080 :: O)) => pix1 own A5 c5 (4278190080 :: O) w h (by simp; omega) ho hD
      have cP3 := fun A5 c5 w (h : Ns .u32 w A5 (4278190080 :: O)) => pix1 0 A5 c5 (4278190080 :: O) w h (by simp; omega) (by unfold C32; omega) hD
      rw [pix_hidden own 0 O] at cP2
      generalize pixL 0 (4278190080 :: O) = p at cP2 cP3
      rw [show (4278190080 :: O : List Int).length = 1 + O.length from by simp; omega] at cP2 cP3
      clear hD
      rcases hkk with rfl | ⟨h1, rfl⟩
      all_goals
        go_wp2_with (at_builtin; refine wp_app_nn (bs := 4) Try.underlying31 infoC rfl (by decide) rfl (.tmp 36) (.tmp 37) rfl (some ⟨wr.heap.size, 0, none⟩) 1 [4278190080] (by first | rfl | simp) wr.heap.size (bD wr) A' O c' (by first | rfl | simp) ((own'.gr ((Gr.refl wr).alloc _)).ns) (own'.nocap) (by simp; omega) (by simp) ?_; intro A5 c5 w3 own5 ap3)
        have own6 := own'.gr ((Gr.refl wr).alloc (.cells #[.int .u32 4278190080] 39))
        have G3 := ApdN.bl ap3 (G.alloc _) (bD wr) G.size
        have own7 : OwN .u32 39 w3 w.heap.size A' c' O := own6.grown ap3 (by
          rcases own'.lies with rfl | ⟨g, rfl, _, hg⟩
          · exact .inl rfl
          · right; simp; omega)
        have N5 : Ns .u32 w3 A5 (4278190080 :: O) := own5.ns
        have N7 := own7.ns
        clear own5 own6 own7 own' ap3 bD G
        go_wp2_with fail
        refine (cP1 _ N7).mono ?_
        rintro e w4 ⟨rfl, g4⟩
        go_wp2_with fail
        refine (cP2 _ _ _ (N5.gr g4)).mono ?_
        rintro e w5 ⟨rfl, g5⟩
        go_wp2_with fail
        refine (cP3 _ _ _ ((N5.gr g4).gr g5)).mono ?_
        rintro e w6 ⟨rfl, g6⟩
        go_wp2_with fail
        refine (plives1 _).mono ?_
        rintro e w7 ⟨rfl, g7⟩
        go_wp2
        go_ret
        exact ⟨rfl, (((G3.gr g4).gr g5).gr g6).gr g7⟩

set_option maxRecDepth 100000 in
theorem paintPixels_lifted (os : Os) (started : os.Started) (H : Type) (enc : TypeId × Value → H) :
    ReturnsInHanded {} Try.checked os 13 .any (Rows.paintPixelsSpec.pre6 enc Try.prog Try.f13 Rows.paintPixelsRow.domain false) (Rows.paintPixelsSpec.post enc Try.prog Try.f13 false true false false) := by
  refine returnsInHanded_of_change (C := Try.checked) own started (by kernel_rfl) Try.func13
    (ChangeSpec.witness6 (enc := enc) (C := Try.checked) false ⟨#[], #[.int .u32 0, .slice none 0 0], []⟩ 8 (by kernel_rfl) (by kernel_rfl) (by kernel_rfl) (by kernel_rfl)) ?_
  intro W base args ds gs before hval0 hW hcnd _
  have hval : ∀ (j : Nat) t v, Try.f13.params[j]? = some t → args[j]? = some v → Value.okWide Try.prog W .any base t v := hval0
  have hW' := hW
  obtain ⟨p, q, hA0, hV, rfl, hfz, hnd⟩ := hW
  have hA : DataW.TrodAll enc Try.prog W 0 (fun _ => true) true Try.f13.params.toList args.toList ds p := hA0
  rw [Try.params13] at hA hval
  obtain ⟨v0, vs0, d0, ds0, p0, q0, hargs, rfl, rfl, h0, r0⟩ := trodAll_cons hA
  obtain ⟨v1, vs1, d1, ds1, p1, q1, rfl, rfl, rfl, h1, r1⟩ := trodAll_cons r0
  obtain ⟨rfl, rfl, rfl⟩ := trodAll_nil r1
  obtain rfl : args = #[v0, v1] := by cases args; simp_all
  obtain ⟨rfl, rfl⟩ := trodVars_none hV
  obtain ⟨n0, rfl, rfl, rfl, un0⟩ := open_int Try.underlying39 (hval 0 39 v0 rfl rfl) h0
  have wn0 := U32.of_wf un0
  obtain ⟨A1, c1, L1, rfl, hc1, hm1, hr1, hI1⟩ := open_colors (hval 1 31 v1 rfl rfl) h1
  unfold maxLen at hm1
  clear hA0 hval0
  simp only [List.append_nil, List.nil_append] at hW'
  have hlt := hW'.lt
  refine (ppixels_walk n0 A1 c1 L1 W wn0 hc1 hm1 hr1 hI1).mono fun e W' ⟨he, hb⟩ => ?_
  subst he
  exact ⟨_, rfl, close_below (pa := p1) (pv := []) hW' (fun _ _ _ => (trodAll_cons_mk (shut_bool Try.underlying4 _) trodAll_mk0)) (fun sp hsp => by
      have := (trodAll_cons_mk (shut_int Try.underlying39 un0) (trodAll_cons_mk (WideElems.Trod_stays laidOut (by kernel_rfl) (of_decide_eq_true (by kernel_rfl)) h1 (fun x hx => Below.same hb (hlt x (by simp [hx]))) (sp' := sp) (fun x hx => hsp x (by simp [hx]))) trodAll_mk0))
      simp only [List.append_nil, List.nil_append] at this
      exact this)
    (fun _ _ => rfl) (by simp) hb (ok_one (by kernel_rfl) rfl (okWide_bool_mk Try.underlying4 _))⟩

theorem paintPixels_holds : Rows.PaintPixelsSaid :=
  OpenClaim.holds_of_wide 13 Try.f13 rfl rfl rfl rfl rfl rfl rfl ⟨rfl, rfl, rfl, rfl, rfl⟩ rfl rfl rfl rfl rfl (by kernel_rfl) Try.func13 (by kernel_rfl)
    (of_decide_eq_true (by kernel_rfl)) (by unfold Func.isWrapper; first | (rw [if_pos (by decide +kernel)]; kernel_rfl) | (rw [if_neg (by decide +kernel)]; exact ⟨rfl, rfl⟩))
    (fun os started H enc _ => paintPixels_lifted os started H enc)

#print axioms paintPixels_holds

end Go.Proofs.Ytleamlecjojfdaa
