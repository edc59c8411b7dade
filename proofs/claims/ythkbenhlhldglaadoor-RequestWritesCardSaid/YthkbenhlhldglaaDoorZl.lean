/-
  What is proved: what arguments of package request hands back. No conditions but bounds.
-/
import Derived.Test.YthkbenhlhldglaaDoorZi
import Derived.Test.YthkbenhlhldglaaDoorMd
namespace Go.Proofs.YthkbenhlhldglaaDoor
open Go.RowKit Go.Sort

theorem own_snocY {w : World} {B : Nat} {A : Option Addr} {c : Nat} {xs : List Value} {v : Value} (h : w.ownsRow B 20 1 (.slice A (xs.length + 1) c) (xs.length + 1) (xs ++ [v])) : OwY w B A c (xs ++ [v]) := by
  unfold OwY; rw [List.length_append]; exact h
set_option maxRecDepth 100000 in
set_option maxHeartbeats 2000000 in
theorem args1 (r : Rq) (d : Value) (F : ByteArray) (w : World) (hd : Sv w d r.d) (hF : F.size ≤ 2) (hmem : ∀ c ∈ F.data.toList, c = 105 ∨ c = 117 ∨ c = 115 ∨ c = 114 ∨ c = 98) :
    Calls Tryd.prog 55 #[.string F, vQ r d] w (fun e w' => ∃ A' c' xs, e = .returned (.slice A' (xs : List Value).length c') ∧ Yv w' A' xs ∧ AllA w' xs (argL F.data.toList 0 r) ∧ Bl w w') := by
  have hsz : F.data.toList.length = F.size := rfl
  have hal := argL_len F.data.toList 0 r
  obtain ⟨A, c, rfl, hA⟩ := hd
  have hsv : Sv w (.slice A r.d.length c) r.d := ⟨A, c, rfl, hA⟩
  obtain ⟨n, hn⟩ : ∃ n, n = F.size := ⟨_, rfl⟩
  have hsn : (F.size : Int) = n := by rw [hn]
  have hn2 : n ≤ 2 := by omega
  have hfs : ∀ (V : World) (b k : Nat), k < n → V.cell? ⟨b, 0, none⟩ = some (.int .i64 r.a) → V.cell? ⟨b, 1, none⟩ = some (.int .i64 r.b) → V.cell? ⟨b, k, none⟩ = some (.int .i64 (if k = 0 then r.a else r.b)) := fun V b k hk h0 h1 => by
    match k, hk with
    | 0, _ => exact h0
    | 1, _ => exact h1
    | k + 2, h => omega
  obtain ⟨l, hl⟩ : ∃ l, l = argL F.data.toList 0 r := ⟨_, rfl⟩
  rw [← hl]
  have hlen : l.length = n := by rw [hl, hal, hsz, hn]
  replace hl := Lib.hid hl
  replace hn := Lib.hid hn
  replace hlen := Lib.hid hlen
  replace hmem := Lib.hid hmem
  replace hsv := Lib.hid hsv
  replace hsz := Lib.hid hsz
  replace hfs := Lib.hid hfs
  clear hal hF hA
  unfold vQ
  have X0 := (At.new w #[.int .i64 r.op, .int .i64 r.id, .int .i64 r.a, .int .i64 r.b, .int .i64 r.x0, .int .i64 r.y0, .int .i64 r.x1, .int .i64 r.y1, .string r.s, .slice A r.d.length c] 36).alloc (.cells #[.int .i64 r.a, .int .i64 r.b] 139)
  have X1 := At.newAt (w := w.alloc (.cells #[.int .i64 r.op, .int .i64 r.id, .int .i64 r.a, .int .i64 r.b, .int .i64 r.x0, .int .i64 r.y0, .int .i64 r.x1, .int .i64 r.y1, .string r.s, .slice A r.d.length c] 36)) (n := w.heap.size + 1) (by simp) #[.int .i64 r.a, .int .i64 r.b] 139
  have G0 : Bl w ((w.alloc (.cells #[.int .i64 r.op, .int .i64 r.id, .int .i64 r.a, .int .i64 r.b, .int .i64 r.x0, .int .i64 r.y0, .int .i64 r.x1, .int .i64 r.y1, .string r.s, .slice A r.d.length c] 36)).alloc (.cells #[.int .i64 r.a, .int .i64 r.b] 139)) := ((Bl.refl w).alloc _).alloc _
  obtain ⟨m, hm⟩ : ∃ m, m = r.d.length := ⟨_, rfl⟩
  rw [← hm] at X0 X1 G0 ⊢
  replace hm := Lib.hid hm
  go_enter Tryd.func55, Tryd.ntmps55
  go_wp2
  generalize (w.alloc (.cells #[.int .i64 r.op, .int .i64 r.id, .int .i64 r.a, .int .i64 r.b, .int .i64 r.x0, .int .i64 r.y0, .int .i64 r.x1, .int .i64 r.y1, .string r.s, .slice A m c] 36)).alloc (.cells #[.int .i64 r.a, .int .i64 r.b] 139) = w0 at *
  replace hsn := Lib.hid hsn
  go_loopw [6, 15] (fun l6 i wr => ∃ k Al cl xs, k ≤ n ∧ i = .int .i64 ((k : Nat) : Int) ∧ l6 = .slice Al (xs : List Value).length cl ∧ OwY wr w0.heap.size Al cl xs ∧ Hid (∀ V, Bl w V → AllA V xs (l.take k)) ∧ Bl w0 wr ∧ xs.length ≤ 2) (fun _ i _ => n - (intOf i).toNat)
  case atStart => exact ⟨0, none, 0, [], Nat.zero_le _, rfl, rfl, OwY.nil _ _, Lib.hid (fun V g => .nil), Bl.refl _, by simp⟩
  case round =>
    obtain ⟨k, Al, cl, xs, hk, rfl, rfl, own, hall, G, hx2⟩ := hrel
    have hsz0 := G.size
    have hxk : xs.length = k := by rw [(hall.out w (Bl.refl w)).len, List.length_take, hlen.out]; omega
    by_cases hlt : k < n
    · have q1 : (k : Int) < n := by omega
      have q2 : (k : Int) < (F.size : Int) := by rw [hsn.out]; exact q1
      have q3 : k < F.size := by rw [← hn.out]; exact hlt
      have q4 : (k : Int) < 2 := by omega
      have hc := letter_at F q3
      have hmm := hmem.out F[k] (List.mem_of_getElem? hc)
      have hget := argL_get F.data.toList 0 k r F[k] hc
      rw [← hl.out, Nat.zero_add] at hget
      have Y0 := X0.bl G
      have Y1 := X1.bl G
      have hnum := hfs.out wr (w.heap.size + 1) k hlt ((Y1.cell 0).trans rfl) ((Y1.cell 1).trans rfl)
      have hlit : ∀ c : UInt8, F[k] = c → (F[k].toNat : Int) = c.toNat := fun c h => by rw [h]
      have hall1 : ∀ c u, F[k] = c → (∀ V, Bl w V → IsA V u (argC c k r)) → ∀ V, Bl w V → AllA V (xs ++ [u]) (l.take (k + 1)) := fun c u hcu hu V g => by
        rw [take_snoc1 hget, hcu]
        exact (hall.out V g).snoc (hu V g)
      replace hxk := Lib.hid hxk
      replace hall1 := Lib.hid hall1
      replace hget := Lib.hid hget
      replace hc := Lib.hid hc
      have y4 : wr.cell? ⟨w.heap.size, 4, none⟩ = some (.int .i64 r.x0) := (Y0.cell 4).trans rfl
      have y5 : wr.cell? ⟨w.heap.size, 5, none⟩ = some (.int .i64 r.y0) := (Y0.cell 5).trans rfl
      have y6 : wr.cell? ⟨w.heap.size, 6, none⟩ = some (.int .i64 r.x1) := (Y0.cell 6).trans rfl
      have y7 : wr.cell? ⟨w.heap.size, 7, none⟩ = some (.int .i64 r.y1) := (Y0.cell 7).trans rfl
      have y8 : wr.cell? ⟨w.heap.size, 8, none⟩ = some (.string r.s) := (Y0.cell 8).trans rfl
      have y9 : wr.cell? ⟨w.heap.size, 9, none⟩ = some (.slice A m c) := (Y0.cell 9).trans rfl
      rcases hmm with hmm | hmm | hmm | hmm | hmm
      · have e0 := hlit 105 hmm
        simp only [UInt8.reduceToNat] at e0
        have hA1 := hall1.out 105 (.iface 3 (.int .i64 (if k = 0 then r.a else r.b))) hmm (fun V g => .inl ⟨rfl, rfl⟩)
        replace hA1 := Lib.hid hA1
        replace hmm := Lib.hid hmm
        clear hlit
        generalize (if k = 0 then r.a else r.b) = z at *
        have own1 : OwY (wr.alloc (.cells #[.iface 3 (.int .i64 z)] 20)) w0.heap.size Al cl xs := own.bl ((Bl.refl wr).alloc _)
        go_wp2_with (at_builtin; refine wp_app_gen Tryd.underlying100 infoAny rfl (by decide) (by decide) rfl (.tmp 21) (.tmp 26) rfl Al xs.length cl xs rfl w0.heap.size own1 (some ⟨wr.heap.size, 0, none⟩) 1 1 [.iface 3 (.int .i64 z)] rfl (by simp) rfl (News.at 1 (At.new wr _ _)) (fun u hu => by rw [List.mem_singleton] at hu; subst hu; rfl) (by omega) (by simp; omega) ?_; intro A2 c2 w4 own2 by2 _; have G4 : Bl w0 w4 := app_bl by2 (G.alloc _) (ow_lies own1) (Nat.le_refl _))
        go_roundw
        case rel => exact ⟨k + 1, A2, c2, xs ++ [.iface 3 (.int .i64 z)], by omega, by go_num, by simp, own_snocY own2, hA1, G4, by have := hxk.out; simp; omega⟩
        case measure => simp [intOf]; omega
      · have e0 := hlit 117 hmm
        simp only [UInt8.reduceToNat] at e0
        have hA1 := hall1.out 117 (.iface 3 (.int .i64 (if k = 0 then r.a else r.b))) hmm (fun V g => .inl ⟨rfl, rfl⟩)
        replace hA1 := Lib.hid hA1
        replace hmm := Lib.hid hmm
        clear hlit
        generalize (if k = 0 then r.a else r.b) = z at *
        have own1 : OwY (wr.alloc (.cells #[.iface 3 (.int .i64 z)] 20)) w0.heap.size Al cl xs := own.bl ((Bl.refl wr).alloc _)
        go_wp2_with (at_builtin; refine wp_app_gen Tryd.underlying100 infoAny rfl (by decide) (by decide) rfl (.tmp 21) (.tmp 26) rfl Al xs.length cl xs rfl w0.heap.size own1 (some ⟨wr.heap.size, 0, none⟩) 1 1 [.iface 3 (.int .i64 z)] rfl (by simp) rfl (News.at 1 (At.new wr _ _)) (fun u hu => by rw [List.mem_singleton] at hu; subst hu; rfl) (by omega) (by simp; omega) ?_; intro A2 c2 w4 own2 by2 _; have G4 : Bl w0 w4 := app_bl by2 (G.alloc _) (ow_lies own1) (Nat.le_refl _))
        go_roundw
        case rel => exact ⟨k + 1, A2, c2, xs ++ [.iface 3 (.int .i64 z)], by omega, by go_num, by simp, own_snocY own2, hA1, G4, by have := hxk.out; simp; omega⟩
        case measure => simp [intOf]; omega
      · have e0 := hlit 115 hmm
        simp only [UInt8.reduceToNat] at e0
        have hA1 := hall1.out 115 (.iface 9 (.string r.s)) hmm (fun V g => .inr (.inl ⟨rfl, rfl⟩))
        replace hA1 := Lib.hid hA1
        replace hmm := Lib.hid hmm
        clear hlit
        have own1 : OwY (wr.alloc (.cells #[.iface 9 (.string r.s)] 20)) w0.heap.size Al cl xs := own.bl ((Bl.refl wr).alloc _)
        go_wp2_with (at_builtin; refine wp_app_gen Tryd.underlying100 infoAny rfl (by decide) (by decide) rfl (.tmp 30) (.tmp 34) rfl Al xs.length cl xs rfl w0.heap.size own1 (some ⟨wr.heap.size, 0, none⟩) 1 1 [.iface 9 (.string r.s)] rfl (by simp) rfl (News.at 1 (At.new wr _ _)) (fun u hu => by rw [List.mem_singleton] at hu; subst hu; rfl) (by omega) (by simp; omega) ?_; intro A2 c2 w4 own2 by2 _; have G4 : Bl w0 w4 := app_bl by2 (G.alloc _) (ow_lies own1) (Nat.le_refl _))
        go_roundw
        case rel => exact ⟨k + 1, A2, c2, xs ++ [.iface 9 (.string r.s)], by omega, by go_num, by simp, own_snocY own2, hA1, G4, by have := hxk.out; simp; omega⟩
        case measure => simp [intOf]; omega
      · have e0 := hlit 114 hmm
        simp only [UInt8.reduceToNat] at e0
        have hA1 := hall1.out 114 (.iface 26 (.agg #[.int .i64 r.x0, .int .i64 r.y0, .int .i64 r.x1, .int .i64 r.y1])) hmm (fun V g => .inr (.inr (.inl ⟨rfl, rfl⟩)))
        replace hA1 := Lib.hid hA1
        replace hmm := Lib.hid hmm
        clear hlit
        have own1 : OwY (wr.alloc (.cells #[.iface 26 (.agg #[.int .i64 r.x0, .int .i64 r.y0, .int .i64 r.x1, .int .i64 r.y1])] 20)) w0.heap.size Al cl xs := own.bl ((Bl.refl wr).alloc _)
        go_wp2_with (at_builtin; refine wp_app_gen Tryd.underlying100 infoAny rfl (by decide) (by decide) rfl (.tmp 38) (.tmp 42) rfl Al xs.length cl xs rfl w0.heap.size own1 (some ⟨wr.heap.size, 0, none⟩) 1 1 [.iface 26 (.agg #[.int .i64 r.x0, .int .i64 r.y0, .int .i64 r.x1, .int .i64 r.y1])] rfl (by simp) rfl (News.at 1 (At.new wr _ _)) (fun u hu => by rw [List.mem_singleton] at hu; subst hu; rfl) (by omega) (by simp; omega) ?_; intro A2 c2 w4 own2 by2 _; have G4 : Bl w0 w4 := app_bl by2 (G.alloc _) (ow_lies own1) (Nat.le_refl _))
        go_roundw
        case rel => exact ⟨k + 1, A2, c2, xs ++ [.iface 26 (.agg #[.int .i64 r.x0, .int .i64 r.y0, .int .i64 r.x1, .int .i64 r.y1])], by omega, by go_num, by simp, own_snocY own2, hA1, G4, by have := hxk.out; simp; omega⟩
        case measure => simp [intOf]; omega
      · have e0 := hlit 98 hmm
        simp only [UInt8.reduceToNat] at e0
        have hA1 := hall1.out 98 (.iface 22 (.slice A m c)) hmm (fun V g => .inr (.inr (.inr (.inl ⟨rfl, _, rfl, by rw [hm.out]; exact hsv.out.bl g⟩))))
        replace hA1 := Lib.hid hA1
        replace hmm := Lib.hid hmm
        clear hlit
        have own1 : OwY (wr.alloc (.cells #[.iface 22 (.slice A m c)] 20)) w0.heap.size Al cl xs := own.bl ((Bl.refl wr).alloc _)
        go_wp2_with (at_builtin; refine wp_app_gen Tryd.underlying100 infoAny rfl (by decide) (by decide) rfl (.tmp 46) (.tmp 50) rfl Al xs.length cl xs rfl w0.heap.size own1 (some ⟨wr.heap.size, 0, none⟩) 1 1 [.iface 22 (.slice A m c)] rfl (by simp) rfl (News.at 1 (At.new wr _ _)) (fun u hu => by rw [List.mem_singleton] at hu; subst hu; rfl) (by omega) (by simp; omega) ?_; intro A2 c2 w4 own2 by2 _; have G4 : Bl w0 w4 := app_bl by2 (G.alloc _) (ow_lies own1) (Nat.le_refl _))
        go_roundw
        case rel => exact ⟨k + 1, A2, c2, xs ++ [.iface 22 (.slice A m c)], by omega, by go_num, by simp, own_snocY own2, hA1, G4, by have := hxk.out; simp; omega⟩
        case measure => simp [intOf]; omega
    · have q1 : ¬ (k : Int) < n := by omega
      have q2 : ¬ (k : Int) < (F.size : Int) := by rw [hsn.out]; exact q1
      have hkn : k = n := by omega
      have hfin : l.take k = l := List.take_of_length_le (by rw [hlen.out]; omega)
      replace hkn := Lib.hid hkn
      replace hxk := Lib.hid hxk
      go_wp2
      go_ret
      exact ⟨Al, cl, xs, rfl, own.yv, by rw [← hfin]; exact hall.out wr (G0.trans G), G0.trans G⟩

end Go.Proofs.YthkbenhlhldglaaDoor
