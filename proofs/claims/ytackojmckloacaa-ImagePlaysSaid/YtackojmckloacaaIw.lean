/-
  What is proved: what Copy of package image does, from one image to another one.
-/
import Derived.Test.YtackojmckloacaaIn
import Derived.Laws.CopyOwn
import Derived.StillTailTactics
import Derived.Deep.RegionHeld3
import Derived.LoopTactic
namespace Go.Proofs.Ytackojmckloacaa
open Go.RowKit Go.Sort

attribute [local go_sem ↓] run_min2 run_max2

theorem putRun_splice {L vs : List Int} {k : Nat} (h : k + vs.length ≤ L.length) : putRun L k vs = L.take k ++ (vs ++ L.drop (k + vs.length)) := by
  apply List.ext_getElem?
  intro i
  rw [putRun_get]
  by_cases h1 : i < k
  · rw [if_neg (by omega), List.getElem?_append_left (by rw [List.length_take]; omega), List.getElem?_take, if_pos h1]
  · rw [List.getElem?_append_right (by rw [List.length_take]; omega), List.length_take, show min k L.length = k by omega]
    by_cases h2 : i < k + vs.length
    · rw [if_pos (by omega), List.getElem?_append_left (by omega)]
    · rw [if_neg (by omega), List.getElem?_append_right (by omega), List.getElem?_drop, show k + vs.length + (i - k - vs.length) = i by omega]
/-- One row of an image, put into another. -/
def cpRow (W W2 u0 v0 x0 y0 m : Nat) (L2 F : List Int) (t : Nat) : List Int := putRun F ((v0 + t) * W + u0) ((L2.drop ((y0 + t) * W2 + x0)).take m)
def cpAll (W W2 u0 v0 x0 y0 m : Nat) (L2 F : List Int) (ts : List Nat) : List Int := ts.foldl (cpRow W W2 u0 v0 x0 y0 m L2) F
theorem cpAll_len (W W2 u0 v0 x0 y0 m : Nat) (L2 : List Int) : ∀ (ts : List Nat) (F : List Int), (cpAll W W2 u0 v0 x0 y0 m L2 F ts).length = F.length
  | [], _ => rfl
  | t :: ts, F => by
    show (cpAll W W2 u0 v0 x0 y0 m L2 (cpRow W W2 u0 v0 x0 y0 m L2 F t) ts).length = _
    rw [cpAll_len W W2 u0 v0 x0 y0 m L2 ts, cpRow, putRun_len]
theorem cpAll_snoc (W W2 u0 v0 x0 y0 m : Nat) (L2 F : List Int) (ts : List Nat) (t : Nat) : cpAll W W2 u0 v0 x0 y0 m L2 F (ts ++ [t]) = cpRow W W2 u0 v0 x0 y0 m L2 (cpAll W W2 u0 v0 x0 y0 m L2 F ts) t := by simp [cpAll]
theorem cpAll_get {W W2 u0 v0 x0 y0 m h : Nat} {L2 : List Int} (h1 : 1 ≤ W) (hm : u0 + m ≤ W) (hs : ∀ t, t < h → (y0 + t) * W2 + x0 + m ≤ L2.length) :
    ∀ (ts : List Nat) (F : List Int) (i : Nat), (∀ t ∈ ts, t < h) → (cpAll W W2 u0 v0 x0 y0 m L2 F ts)[i]? = if i < F.length ∧ u0 ≤ i % W ∧ i % W < u0 + m ∧ v0 ≤ i / W ∧ i / W - v0 ∈ ts then L2[(y0 + (i / W - v0)) * W2 + x0 + (i % W - u0)]? else F[i]?
  | [], F, i, _ => by rw [if_neg (by simp)]; rfl
  | t :: ts, F, i, hts => by
    show (cpAll W W2 u0 v0 x0 y0 m L2 (cpRow W W2 u0 v0 x0 y0 m L2 F t) ts)[i]? = _
    have hl := hs t (hts t List.mem_cons_self)
    have hvs : ((L2.drop ((y0 + t) * W2 + x0)).take m).length = m := by rw [List.length_take, List.length_drop]; omega
    rw [cpAll_get h1 hm hs ts _ i (fun t' h' => hts t' (List.mem_cons_of_mem _ h')), cpRow, putRun_len, putRun_get, hvs]
    have r := row_iff (x0 := u0) (x1 := u0 + m) (y := v0 + t) (i := i) (by omega) hm h1
    rw [show u0 + m - u0 = m by omega] at r
    by_cases k : i < F.length ∧ u0 ≤ i % W ∧ i % W < u0 + m ∧ v0 ≤ i / W ∧ i / W - v0 ∈ ts
    · rw [if_pos k, if_pos ⟨k.1, k.2.1, k.2.2.1, k.2.2.2.1, List.mem_cons_of_mem _ k.2.2.2.2⟩]
    · rw [if_neg k]
      by_cases q : (v0 + t) * W + u0 ≤ i ∧ i < (v0 + t) * W + u0 + m ∧ i < F.length
      · obtain ⟨q1, q2, q3⟩ := r.1 ⟨q.1, q.2.1⟩
        have e : i / W - v0 = t := by omega
        rw [if_pos q, if_pos ⟨q.2.2, q2, q3, by omega, by rw [e]; exact List.mem_cons_self⟩, List.getElem?_take, if_pos (by omega), List.getElem?_drop, e]
        congr 1
        have hd := Nat.div_add_mod i W
        rw [q1, Nat.mul_comm] at hd
        omega
      · rw [if_neg q, if_neg]
        rintro ⟨l1, l2, l3, l4, l5⟩
        rcases List.mem_cons.1 l5 with l | l
        · have := r.2 ⟨by omega, l2, l3⟩; omega
        · exact k ⟨l1, l2, l3, l4, l⟩

theorem step_copy_run {ops : Array Oper} {o : Oper} {a : Act} {w : World} {K : Act → World → Prop} {Q : Exit → Act → World → Prop} {E : Prop}
    (hg : o.guard = none) (d x : Operand) (dT sT : TypeId) (hop : o.op = Op.call { callee := Callee.builtin Builtin.copy, args := #[d, x], argTypes := #[dT, sT] })
    (v u : Value) (hd : a.eval d = v) (hx : a.eval x = u) {v' : Value} {w' : World} (hr : (Builtin.copy_ #[dT, sT] o.type #[v, u]).run Try.prog w = .ok v' w') (hK : K (a.put o.dst v') w') :
    if Region.wanted o (yielded ops a.tmps) = true then Oper.wp Try.prog o a w K Q else E := by
  have hw : Region.wanted o (yielded ops a.tmps) = true := by simp [Region.wanted, hg]
  rw [if_pos hw]
  unfold Oper.wp
  simp [execOp, hop, resolve, invoke, builtin, hd, hx, hr, Result.andThen]
  exact hK
theorem by_setRow {a b : World} {r : Nat} (h : a.grownBy b (some r)) (cs : Array Value) : a.grownBy (b.setRow r cs) (some r) :=
  ⟨h.os, h.tape, h.output, Nat.le_trans h.size (by simp [World.setRow]), fun k hk hne => (setRow_other b r k cs (by intro e; exact hne (by rw [e]))).trans (h.block k hk hne)⟩
theorem cC_list (L : List Int) : (cC L).toList = L.map (Value.int .u32) := by simp [cC]
theorem Img.setRow {w : World} {pm pc W H : Nat} {F vs : List Int} (h : Img w pm pc W H F) (k : Nat) (hk : k + vs.length ≤ F.length) :
    Img (w.setRow pc ((cC F).toList.take k ++ vs.map (Value.int .u32) ++ (cC F).toList.drop (k + vs.length)).toArray) pm pc W H (putRun F k vs) := by
  have hl : (putRun F k vs).length = F.length := putRun_len _ _ _
  have he : ((cC F).toList.take k ++ vs.map (Value.int .u32) ++ (cC F).toList.drop (k + vs.length)).toArray = cC (putRun F k vs) := by
    rw [cC_list, putRun_splice hk]
    simp [cC, List.map_take, List.map_drop]
  rw [he]
  refine { h with hd := ?_, cs := ?_, len := hl.trans h.len }
  · rw [hl]; exact h.hd.same (setRow_other _ _ _ _ h.ne)
  · exact setRow_heap w pc _ _ _ _ h.cs
theorem copy_run {w : World} {pm pc W H : Nat} {F : List Int} (h : Img w pm pc W H F) (pc2 k k2 dc sc : Nat) (_L2 vs : List Int) (hR : ∀ j x, vs[j]? = some x → w.cell? ⟨pc2, k2 + j, none⟩ = some (.int .u32 x)) (hk : k + vs.length ≤ F.length) :
    (Builtin.copy_ #[22, 22] 3 #[.slice (some ⟨pc, k, none⟩) vs.length dc, .slice (some ⟨pc2, k2, none⟩) vs.length sc]).run Try.prog w =
      .ok (goInt vs.length) (w.setRow pc ((cC F).toList.take k ++ vs.map (Value.int .u32) ++ (cC F).toList.drop (k + vs.length)).toArray) := by
  have := run_copy_row (P := Try.prog) w 22 22 3 30 pc k vs.length dc ⟨pc2, k2, none⟩ vs.length sc (cC F) 30 (vs.map (Value.int .u32)) Try.underlying22 (by kernel_rfl) h.cs (by simp)
    (rowN_add (k := .u32) hR) (by simp [cC]; simpa using hk) (one_int _ _)
  simpa using this

set_option maxHeartbeats 400000 in
theorem near1 (n : Int) (w : World) (h0 : -1048576 ≤ n) (h1 : n ≤ 1048576) : Calls Try.prog 30 #[.int .i64 n] w (fun e w' => e = .returned (.int .i64 n) ∧ w = w') := by
  have e : min (max n (-1048576)) 1048576 = n := by omega
  go_enter Try.func30, Try.ntmps30
  go_wp2
  go_ret
  exact ⟨rfl, rfl⟩

set_option maxRecDepth 100000 in
set_option maxHeartbeats 4000000 in
theorem copyO1 {pm pc W H pm2 pc2 W2 H2 : Nat} {L L2 : List Int} (w : World) (hI : Img w pm pc W H L) (hJ : Img w pm2 pc2 W2 H2 L2) (hne : pc ≠ pm2 ∧ pc ≠ pc2) (a b c d dx dy : Int) (hdx : -1048576 ≤ dx ∧ dx ≤ 1048576) (hdy : -1048576 ≤ dy ∧ dy ≤ 1048576) (x0 y0 x1 y1 u0 v0 : Nat) (R1 : Rc)
    (hc1 : cutR a b c d 0 0 W2 H2 = R1) (hc2 : cutR R1.a R1.b R1.c R1.d (-dx) (-dy) (W - dx) (H - dy) = ⟨x0, y0, x1, y1⟩) (hx0 : x0 ≤ x1) (hx : y0 < y1 → x0 < x1) (hy : y0 ≤ y1) (hw : x1 ≤ W2) (hh : y1 ≤ H2)
    (hu : y0 < y1 → (u0 : Int) = x0 + dx ∧ (v0 : Int) = y0 + dy ∧ u0 + (x1 - x0) ≤ W ∧ v0 + (y1 - y0) ≤ H) :
    Calls Try.prog 11 #[.pointer (some ⟨pm, 0, none⟩), .pointer (some ⟨pm2, 0, none⟩), .agg #[.int .i64 a, .int .i64 b, .int .i64 c, .int .i64 d], .int .i64 dx, .int .i64 dy] w
      (fun e w' => ∃ ts : List Nat, e = .returned (.int .i64 (areaI x0 y0 x1 y1)) ∧ w.grownBy w' (some pc) ∧ Img w' pm pc W H (cpAll W W2 u0 v0 x0 y0 (x1 - x0) L2 L ts) ∧ (∀ t, t ∈ ts ↔ t < y1 - y0)) := by
  obtain ⟨hdx1, hdx2⟩ := hdx
  obtain ⟨hdy1, hdy2⟩ := hdy
  obtain ⟨ra, rb, rc, rd⟩ := R1
  dsimp only at hc2
  have cn := fun (n : Int) (w : World) (h0 : -1048576 ≤ n) (h1 : n ≤ 1048576) => near1 n w h0 h1
  have cc1 := fun w => cut1 a b c d 0 0 W2 H2 w
  have cc2 := fun w => cut1 ra rb rc rd (-dx) (-dy) (W - dx) (H - dy) w
  rw [hc1] at cc1
  rw [hc2] at cc2
  dsimp only at cc1 cc2
  clear hc1 hc2
  have hWb := hI.w2
  have hHb := hI.h2
  have mixed : Try.prog.follows .mixedOrders = true := by kernel_rfl
  have hmay : mayB x0 y0 x1 y1 = true := by have := hJ.w2; have := hJ.h2; simp [mayB]; omega
  have car := fun w => area1 x0 y0 x1 y1 w hmay
  clear hmay
  have G0 := (Gr.refl w).alloc (.cells #[.int .i64 a, .int .i64 b, .int .i64 c, .int .i64 d] 32)
  have E0 := At.new w #[.int .i64 a, .int .i64 b, .int .i64 c, .int .i64 d] 32
  have hu' := Lib.hid hu
  clear hu
  go_enter Try.func11, Try.ntmps11
  go_wp2_with fail
  refine (near1 _ _ hdx1 hdx2).mono ?_
  rintro e w1 ⟨rfl, rfl⟩
  go_wp2_with fail
  refine (near1 _ _ hdy1 hdy2).mono ?_
  rintro e w1 ⟨rfl, rfl⟩
  have I1 := hI.gr G0
  clear cn
  go_wp2
  obtain ⟨V1, hV1⟩ : ∃ V1, V1 = w.alloc (.cells #[.int .i64 a, .int .i64 b, .int .i64 c, .int .i64 d] 32) := ⟨_, rfl⟩
  have hz1 : V1.heap.size = w.heap.size + 1 := by rw [hV1]; simp
  rw [← hV1] at I1 G0 E0 ⊢
  clear hV1
  have SK : ∀ V, Gr V1 V → (V.cell? ⟨pm, 0, none⟩ = some (.int .i64 W) ∧ V.cell? ⟨pm, 1, none⟩ = some (.int .i64 H) ∧ Gr V1 V) := fun V g => ⟨(I1.gr g).c0, (I1.gr g).c1, g⟩
  have e1 : IntKind.i64.wrap (-dx) = -dx := IntWalk.i64_in _ (by omega)
  have e2 : IntKind.i64.wrap (-dy) = -dy := IntWalk.i64_in _ (by omega)
  have e3 : IntKind.i64.wrap ((W : Int) - dx) = (W : Int) - dx := IntWalk.i64_in _ (by omega)
  have e4 : IntKind.i64.wrap ((H : Int) - dy) = (H : Int) - dy := IntWalk.i64_in _ (by omega)
  go_region_held3 (fun V => V.cell? ⟨pm, 0, none⟩ = some (.int .i64 W) ∧ V.cell? ⟨pm, 1, none⟩ = some (.int .i64 H) ∧ Gr V1 V) ((refine SK _ ?_; first | assumption | exact Gr.refl _ | exact (Gr.refl _).drew | exact (And.right (And.right (by assumption))) | exact Gr.drew (And.right (And.right (by assumption))) | exact Gr.alloc (And.right (And.right (by assumption))) _ | exact Gr.alloc (Gr.refl _).drew _ | exact Gr.alloc (Gr.refl _) _))
    (fail)
  clear SK e1 e2 e3 e4
  have K2 := (At.newAt (w := V1) hz1 #[.int .i64 (-dx), .int .i64 (-dy), .int .i64 (W - dx), .int .i64 (H - dy)] 32).drew
  have E2 := (E0.alloc (.cells #[.int .i64 (-dx), .int .i64 (-dy), .int .i64 (W - dx), .int .i64 (H - dy)] 32)).drew
  have G2 := (G0.alloc (.cells #[.int .i64 (-dx), .int .i64 (-dy), .int .i64 (W - dx), .int .i64 (H - dy)] 32)).drew
  generalize (V1.alloc (.cells #[.int .i64 (-dx), .int .i64 (-dy), .int .i64 (W - dx), .int .i64 (H - dy)] 32)).drew = V2 at K2 E2 G2 ⊢
  have I2 := hI.gr G2
  have J2 := hJ.gr G2
  clear I1 G0 E0 hz1
  go_wp2
  rename_i K hK
  have rest : ∀ V : World, At V w.heap.size #[.int .i64 x0, .int .i64 y0, .int .i64 x1, .int .i64 y1] 32 → Gr w V →
      K { tmps := #[.pointer (some ⟨pm, 0, none⟩), .pointer (some ⟨pm2, 0, none⟩), .agg #[.int .i64 a, .int .i64 b, .int .i64 c, .int .i64 d], .int .i64 dx, .int .i64 dy, undef, undef, .pointer (some ⟨w.heap.size, 0, none⟩), undef, undef, .int .i64 0,
        .pointer (some ⟨w.heap.size + 1, 0, none⟩), undef, undef, .int .i64 dx, .int .i64 dx, .int .i64 dy, .int .i64 dy, .int .i64 dx, .int .i64 (-dx), .int .i64 dy, .int .i64 (-dy), .pointer (some ⟨pm, 0, none⟩), .pointer (some ⟨pm, 0, none⟩), .pointer (some ⟨pm, 0, none⟩), .int .i64 W, .int .i64 dx,
        .int .i64 (W - dx), .pointer (some ⟨pm, 0, none⟩), .pointer (some ⟨pm, 0, none⟩), .pointer (some ⟨pm, 1, none⟩), .int .i64 H, .int .i64 dy, .int .i64 (H - dy), .agg #[.int .i64 (-dx), .int .i64 (-dy), .int .i64 (W - dx), .int .i64 (H - dy)],
        .agg #[.int .i64 a, .int .i64 b, .int .i64 c, .int .i64 d], .pointer (some ⟨pm2, 0, none⟩), .agg #[.int .i64 0, .int .i64 0, .int .i64 W2, .int .i64 H2], .agg #[.int .i64 ra, .int .i64 rb, .int .i64 rc, .int .i64 rd],
        .agg #[.int .i64 (-dx), .int .i64 (-dy), .int .i64 (W - dx), .int .i64 (H - dy)], .agg #[.int .i64 x0, .int .i64 y0, .int .i64 x1, .int .i64 y1], undef, undef, undef, undef, undef, undef, undef, undef, undef, undef, undef, undef, undef, undef, undef, undef, undef, undef, undef, undef, undef, undef, undef, undef, undef, undef, undef, undef, undef, undef, undef, undef, undef, undef, undef, undef, undef, undef, undef, undef, undef, undef, undef], defers := [] } V := by
    intro V E G
    refine hK _ _ ?_
    clear hK I2 J2 K2 E2 G2 cc1 cc2 mixed
    have I := hI.gr G
    have J := hJ.gr G
    have hlm := hI.hd.lt; have hlc := hI.cs.lt; have hlm2 := hJ.hd.lt; have hlc2 := hJ.cs.lt
    have hJw := hJ.w2; have hJh := hJ.h2
    obtain ⟨p0, p1, p2, p3⟩ := cells4 E
    have hcy : (y1 : Int) - (y0 : Int) = ((y1 - y0 : Nat) : Int) := by omega
    obtain ⟨h, hh'⟩ : ∃ h, h = y1 - y0 := ⟨_, rfl⟩
    rw [← hh'] at hcy
    have hh2 := Lib.hid hh'
    clear hh'
    go_wp2_with fail
    go_loopw [46] (fun i wr => ∃ (k : Nat) (ts : List Nat), k ≤ h ∧ i = .int .i64 k ∧ Img wr pm pc W H (cpAll W W2 u0 v0 x0 y0 (x1 - x0) L2 L ts) ∧ Img wr pm2 pc2 W2 H2 L2 ∧ At wr w.heap.size #[.int .i64 x0, .int .i64 y0, .int .i64 x1, .int .i64 y1] 32 ∧ w.grownBy wr (some pc) ∧ (∀ t, t ∈ ts ↔ t < h ∧ ((0 < dy ∧ h - k ≤ t) ∨ (dy ≤ 0 ∧ t < k))))
      (fun i _ => h - (intOf i).toNat)
    case atStart => exact ⟨0, [], Nat.zero_le _, rfl, I, J, E, G.by _, by intro t; simp; omega⟩
    case round =>
      obtain ⟨k, ts, hk, rfl, Ik, Jk, Ek, Gk, hts⟩ := hrel
      have hts' := Lib.hid hts
      clear hts
      by_cases hlt : k < h
      · obtain ⟨u1e, v1e, hub, hvb⟩ := hu'.out (by have := hh2.out; omega)
        have hxx := hx (by have := hh2.out; omega)
        obtain ⟨t, ht⟩ : ∃ t, t = if 0 < dy then h - 1 - k else k := ⟨_, rfl⟩
        have htk : t < h ∧ ((0 < dy ∧ t = h - 1 - k) ∨ (dy ≤ 0 ∧ t = k)) := by
          by_cases hd : 0 < dy
          · rw [if_pos hd] at ht; omega
          · rw [if_neg hd] at ht; omega
        have hhe := hh2.out
        obtain ⟨yy, hyy⟩ : ∃ yy, yy = y0 + t := ⟨_, rfl⟩
        obtain ⟨vv, hvv⟩ : ∃ vv, vv = v0 + t := ⟨_, rfl⟩
        obtain ⟨m, hm⟩ : ∃ m, m = x1 - x0 := ⟨_, rfl⟩
        obtain ⟨ue, hue⟩ : ∃ ue, ue = u0 + m := ⟨_, rfl⟩
        have cs1 := fun (V : World) (hD : At V pm #[.int .i64 W, .int .i64 H, .slice (some ⟨pc, 0, none⟩) (cpAll W W2 u0 v0 x0 y0 (x1 - x0) L2 L ts).length (cpAll W W2 u0 v0 x0 y0 (x1 - x0) L2 L ts).length] 62) => span0 V hD (Nat.le_refl _) Ik.len hWb hHb vv u0 ue (by omega) (by omega) (by omega)
        have cs2 := fun (V : World) (hD : At V pm2 #[.int .i64 W2, .int .i64 H2, .slice (some ⟨pc2, 0, none⟩) L2.length L2.length] 62) => span0 V hD (Nat.le_refl _) Jk.len hJw hJh yy x0 x1 (by omega) (by omega) hw
        rw [show ue - u0 = m by omega] at cs1
        rw [← hm] at cs2
        have f1 : IntKind.i64.wrap ((yy : Int) + dy) = (vv : Int) := by rw [show (yy : Int) + dy = (vv : Int) by omega]; exact IntWalk.i64_in _ (by omega)
        have f2 : IntKind.i64.wrap ((x0 : Int) + dx) = (u0 : Int) := by rw [← u1e]; exact IntWalk.i64_in _ (by omega)
        have f3 : IntKind.i64.wrap ((x1 : Int) + dx) = (ue : Int) := by rw [show (x1 : Int) + dx = (ue : Int) by omega]; exact IntWalk.i64_in _ (by omega)
        have hsrcL : yy * W2 + x0 + m ≤ L2.length := by
          have := row_of (show x1 - 1 < W2 by omega) (show yy < H2 by omega)
          rw [← Jk.len] at this; omega
        have hdstL : vv * W + u0 + m ≤ (cpAll W W2 u0 v0 x0 y0 (x1 - x0) L2 L ts).length := by
          have := row_of (show u0 + m - 1 < W by omega) (show vv < H by omega)
          rw [← Ik.len] at this; omega
        have hvl : ((L2.drop (yy * W2 + x0)).take m).length = m := by rw [List.length_take, List.length_drop]; omega
        have hnext : putRun (cpAll W W2 u0 v0 x0 y0 (x1 - x0) L2 L ts) (vv * W + u0) ((L2.drop (yy * W2 + x0)).take m) = cpAll W W2 u0 v0 x0 y0 (x1 - x0) L2 L (ts ++ [t]) := by
          rw [cpAll_snoc, cpRow, hvv, hyy, hm]
        have hcp := fun (V : World) (dc sc : Nat) (g : Gr wr V) => copy_run (Ik.gr g) pc2 (vv * W + u0) (yy * W2 + x0) dc sc L2 ((L2.drop (yy * W2 + x0)).take m)
          (fun j x hj => (Jk.gr g).at (by rw [List.getElem?_take] at hj; split at hj; rw [List.getElem?_drop] at hj; exact hj; cases hj)) (by rw [hvl]; exact hdstL)
        have hset := fun (V : World) (g : Gr wr V) => (Ik.gr g).setRow (vs := (L2.drop (yy * W2 + x0)).take m) (vv * W + u0) (by rw [hvl]; exact hdstL)
        rw [hnext] at hset
        rw [hvl] at hcp hset
        have htn : ∀ s, s ∈ ts ++ [t] ↔ s < h ∧ ((0 < dy ∧ h - (k + 1) ≤ s) ∨ (dy ≤ 0 ∧ s < k + 1)) := by
          intro s
          rw [List.mem_append, hts'.out, List.mem_singleton]
          rcases htk with ⟨_, ⟨_, _⟩ | ⟨_, _⟩⟩ <;> omega
        have htn' := Lib.hid htn
        have hdirect : (0 < dy ∧ (y1 : Int) - 1 - (k : Int) = (yy : Int)) ∨ (dy ≤ 0 ∧ (y0 : Int) + (k : Int) = (yy : Int)) := by omega
        have hIk := Ik.hd
        have hJk := Jk.hd
        clear htn hnext hsrcL hdstL hvl hyy hvv ht htk hhe u1e v1e hub hvb hue
        have hm' := Lib.hid hm
        clear hm
        generalize ((cC (cpAll W W2 u0 v0 x0 y0 (x1 - x0) L2 L ts)).toList.take (vv * W + u0) ++ ((L2.drop (yy * W2 + x0)).take m).map (Value.int .u32) ++ (cC (cpAll W W2 u0 v0 x0 y0 (x1 - x0) L2 L ts)).toList.drop (vv * W + u0 + m)).toArray = CS at hcp hset
        generalize (cpAll W W2 u0 v0 x0 y0 (x1 - x0) L2 L ts).length = nF at cs1 hIk
        generalize vv * W + u0 = kd at *
        generalize yy * W2 + x0 = ks at *
        generalize L2.length = nL at cs2 hJk
        obtain ⟨p0, p1, p2, p3⟩ := cells4 Ek
        have SK : ∀ V, wr.grownBy V (some pc) → (V.cell? ⟨w.heap.size, 0, none⟩ = some (.int .i64 x0) ∧ V.cell? ⟨w.heap.size, 1, none⟩ = some (.int .i64 y0) ∧ V.cell? ⟨w.heap.size, 2, none⟩ = some (.int .i64 x1) ∧ V.cell? ⟨w.heap.size, 3, none⟩ = some (.int .i64 y1) ∧ wr.grownBy V (some pc)) := fun V g => by
          obtain ⟨p0, p1, p2, p3⟩ := cells4 (Ek.kept g (by simp; omega))
          exact ⟨p0, p1, p2, p3, g⟩
        rcases hdirect with ⟨hd, hyy⟩ | ⟨hd, hyy⟩
        all_goals
          go_wp2
          go_region_held3 (fun V => V.cell? ⟨w.heap.size, 0, none⟩ = some (.int .i64 x0) ∧ V.cell? ⟨w.heap.size, 1, none⟩ = some (.int .i64 y0) ∧ V.cell? ⟨w.heap.size, 2, none⟩ = some (.int .i64 x1) ∧ V.cell? ⟨w.heap.size, 3, none⟩ = some (.int .i64 y1) ∧ wr.grownBy V (some pc)) ((refine SK _ ?_; first | assumption | exact by_refl _ _ | exact by_drew (by_refl _ _) | exact by_drewN (by_refl _ _) _ | exact by_drew (by_setRow (by_drewN (by_refl _ _) _) _) | exact by_setRow (by_drewN (by_refl _ _) _) _ | exact (And.right (And.right (And.right (And.right (by assumption))))) | exact by_drew (And.right (And.right (And.right (And.right (by assumption))))) | exact by_drewN (And.right (And.right (And.right (And.right (by assumption))))) _ | exact by_setRow (And.right (And.right (And.right (And.right (by assumption))))) _))
            ((first
              | (go_at_call 31; (with_reducible refine (cs1 _ (hIk.gr (by repeat (first | with_reducible exact Gr.refl _ | with_reducible apply Gr.drewN | with_reducible apply Gr.drew)))).mono ?_); rintro e a1 ⟨rfl, nq1, rfl⟩)
              | (go_at_call 31; (with_reducible refine (cs2 _ (hJk.gr (by repeat (first | with_reducible exact Gr.refl _ | with_reducible apply Gr.drewN | with_reducible apply Gr.drew)))).mono ?_); rintro e a2 ⟨rfl, nq2, rfl⟩)
              | (refine step_copy_run (by rfl) (.tmp 72) (.tmp 79) _ _ (by rfl) _ _ (by rfl) (by rfl) (hcp _ _ _ (by repeat (first | with_reducible exact Gr.refl _ | with_reducible apply Gr.drewN | with_reducible apply Gr.drew))) ?_)))
        all_goals
          have gX : Gr wr (wr.drewN (1 + nq1 + nq2)) := (Gr.refl wr).drewN _
          have bX := by_setRow (gX.by (some pc)) CS
          have IX := hset _ gX
          have JX := Jk.kept bX (by simp; omega) (by simp; omega)
          have EX := Ek.kept bX (by simp; omega)
          have GX := by_trans Gk bX
          generalize (wr.drewN (1 + nq1 + nq2)).setRow pc CS = X at IX JX EX GX ⊢
          clear bX gX hset hcp cs1 cs2 hIk hJk SK f1 f2 f3 p0 p1 p2 p3 hyy
          go_wp2
          go_roundw
          case rel => exact ⟨k + 1, ts ++ [t], by omega, by simp, IX, JX, EX, GX, htn'.out⟩
          case measure => simp [intOf]; omega
      · obtain rfl : k = h := by omega
        obtain ⟨p0, p1, p2, p3⟩ := cells4 Ek
        go_wp2_with fail
        refine (car _).mono ?_
        rintro e w6 ⟨rfl, g6⟩
        go_wp2
        go_ret
        exact ⟨ts, rfl, by_gr Gk g6, Ik.gr g6, fun t => by rw [hts'.out]; omega⟩
  obtain ⟨p0, p1, p2, p3⟩ := cells4 E2
  obtain ⟨q0, q1, q2, q3⟩ := cells4 K2
  go_region_with (first | (go_at_call 24; refine (box1 _ (J2.gr (Gr.refl _).drew)).mono ?_; rintro e a1 ⟨rfl, g1⟩; have B1 : Gr V2 a1 := (Gr.refl _).drew.trans g1; obtain ⟨p0, p1, p2, p3⟩ := cells4 (E2.gr B1); obtain ⟨q0, q1, q2, q3⟩ := cells4 (K2.gr B1)) | (go_at_call 27; (with_reducible refine (cc1 _).mono ?_); rintro e a2 ⟨rfl, g2⟩; have B2 : Gr V2 a2 := Gr.trans B1 g2; obtain ⟨q0, q1, q2, q3⟩ := cells4 (K2.gr B2)) | (go_at_call 27; (with_reducible refine (cc2 _).mono ?_); rintro e a3 ⟨rfl, g3⟩; have B3 : Gr V2 a3 := Gr.trans B2 g3; obtain ⟨p0, p1, p2, p3⟩ := cells4 (E2.gr B3); obtain ⟨f0, f1, f2, f3⟩ := free4 (E2.gr B3)))
  all_goals
    exact rest _ ((E2.gr B3).put4 (.int .i64 x0) (.int .i64 y0) (.int .i64 x1) (.int .i64 y1)) (((((G2.trans B3).setCell (p := ⟨w.heap.size, 0, none⟩) (Nat.le_refl _) _).setCell (p := ⟨w.heap.size, 1, none⟩) (Nat.le_refl _) _).setCell (p := ⟨w.heap.size, 2, none⟩) (Nat.le_refl _) _).setCell (p := ⟨w.heap.size, 3, none⟩) (Nat.le_refl _) _)

end Go.Proofs.Ytackojmckloacaa
