/-
  What is proved: what the document's Good hands back: an image made of any colors. what the document's Fill hands back. what Solid of package image tells. plain mathematics of rows: what is filled row by row is what is filled point by point, and how many points that are.
-/
import Derived.Test.YtafceieenhogpaaZi
import Derived.Deep.RegionHeld3
namespace Go.Proofs.Ytafceieenhogpaa
open Go.RowKit Go.Sort Go.Deep

def side (n : Int) : Nat := 1 + (around n 16).toNat
theorem side_bd (n : Int) : 1 ≤ side n ∧ side n ≤ 16 ∧ ((side n : Nat) : Int) = 1 + around n 16 := by
  have := around_bd n 16 (by omega)
  unfold side; omega
/-- The colors of an image that is made of these. -/
def goodL (n : Nat) (a : List Int) : List Int := (a.map gd).take n ++ List.replicate (n - a.length) 0
theorem goodL_len (n : Nat) (a : List Int) : (goodL n a).length = n := by simp [goodL]; omega
theorem goodL_may (n : Nat) (a : List Int) : MayL (goodL n a) := by
  intro c hc
  unfold goodL at hc
  rw [List.mem_append] at hc
  rcases hc with h | h
  · obtain ⟨x, _, rfl⟩ := List.mem_map.1 (List.mem_of_mem_take h)
    exact ⟨gd_c32 x, may_gd x⟩
  · obtain rfl := List.eq_of_mem_replicate h
    exact ⟨by unfold C32; omega, by decide⟩
theorem goodL_end {n k : Nat} {a : List Int} (h : k = n ∨ k = a.length) (hk : k ≤ n ∧ k ≤ a.length) : (a.map gd).take k ++ List.replicate (n - k) 0 = goodL n a := by
  unfold goodL
  rcases h with rfl | rfl
  · rw [show k - k = k - a.length by omega]
  · rw [List.take_of_length_le (by simp), List.take_of_length_le (l := a.map gd) (i := n) (by simp; omega)]
theorem At.put3 {w : World} {b : Nat} {z0 z1 z2 : Value} {t : TypeId} (h : At w b #[z0, z1, z2] t) (u0 u1 u2 : Value) :
    At (((w.setCell ⟨b, 0, none⟩ u0).setCell ⟨b, 1, none⟩ u1).setCell ⟨b, 2, none⟩ u2) b #[u0, u1, u2] t := by
  have h1 := Go.Joins.block_setCell (i := 0) h u0
  have h2 := Go.Joins.block_setCell (i := 1) h1 u1
  have h3 := Go.Joins.block_setCell (i := 2) h2 u2
  unfold At
  simpa using h3
theorem At.far3 {w : World} {b k : Nat} {cs : Array Value} {t : TypeId} (h : At w b cs t) (hp : b ≠ k) (u0 u1 u2 : Value) : At (((w.setCell ⟨k, 0, none⟩ u0).setCell ⟨k, 1, none⟩ u1).setCell ⟨k, 2, none⟩ u2) b cs t :=
  ((h.far (p := ⟨k, 0, none⟩) hp u0).far (p := ⟨k, 1, none⟩) hp u1).far (p := ⟨k, 2, none⟩) hp u2
theorem Bl.put3 {a w : World} (h : Bl a w) {k : Nat} (hk : a.heap.size ≤ k) (u0 u1 u2 : Value) : Bl a (((w.setCell ⟨k, 0, none⟩ u0).setCell ⟨k, 1, none⟩ u1).setCell ⟨k, 2, none⟩ u2) :=
  ((h.setCell (p := ⟨k, 0, none⟩) hk u0).setCell (p := ⟨k, 1, none⟩) hk u1).setCell (p := ⟨k, 2, none⟩) hk u2
theorem cells3 {w : World} {b : Nat} {v0 v1 v2 : Value} {t : TypeId} (h : At w b #[v0, v1, v2] t) : w.cell? ⟨b, 0, none⟩ = some v0 ∧ w.cell? ⟨b, 1, none⟩ = some v1 ∧ w.cell? ⟨b, 2, none⟩ = some v2 := ⟨h.cell 0, h.cell 1, h.cell 2⟩

set_option maxRecDepth 100000 in
set_option maxHeartbeats 2000000 in
theorem mgood1 (x y : Int) (A : Option Addr) (ca : Nat) (a : List Int) (w : World) (hA : Ns .u32 w A a) (h32 : ∀ c ∈ a, C32 c) (_ : a.length ≤ ca) (_ : ca ≤ maxLen) (hx : I64 x) (hy : I64 y) :
    Calls Try.prog 15 #[.int .i64 x, .int .i64 y, .slice A a.length ca] w
      (fun e w' => ∃ b, e = .returned (.agg #[.int .i64 (side x : Nat), .int .i64 (side y : Nat), .slice (some ⟨b, 0, none⟩) (side x * side y) (side x * side y)]) ∧ At w' b (cC (goodL (side x * side y) a)) 39 ∧ w.heap.size ≤ b ∧ Bl w w') := by
  obtain ⟨s1, s2, s3⟩ := side_bd x
  obtain ⟨t1, t2, t3⟩ := side_bd y
  have ax := around_bd x 16 (by omega)
  have ay := around_bd y 16 (by omega)
  obtain ⟨ax1, ax2⟩ := ax
  obtain ⟨ay1, ay2⟩ := ay
  have cx := fun w => around1 x 16 w hx (by omega)
  have cy := fun w => around1 y 16 w hy (by omega)
  have cn := fun w => refNew1 (side x) (side y) w (by omega) (by omega)
  rw [s3, t3] at cn ⊢
  have hle := area_le (W := side x) (H := side y) (by omega) (by omega)
  generalize side x * side y = n at *
  generalize side x = sx at *
  generalize side y = sy at *
  generalize around x 16 = rx at *
  generalize around y 16 = ry at *
  have hs3 := Lib.hid s3
  have ht3 := Lib.hid t3
  obtain ⟨la, hla⟩ : ∃ la, la = a.length := ⟨_, rfl⟩
  rw [← hla]
  have hlaa := Lib.hid hla
  clear hla s3 t3
  go_enter Try.func15, Try.ntmps15
  go_wp2_with fail
  refine (cx _).mono ?_
  rintro e w1 ⟨rfl, rfl⟩
  go_wp2_with fail
  refine (cy _).mono ?_
  rintro e w1 ⟨rfl, rfl⟩
  go_wp2_with fail
  refine (cn _).mono ?_
  rintro e w2 ⟨b, rfl, C2, hb2, g2⟩
  have R2 := (At.new w #[.int .i64 0, .int .i64 0, .slice none 0 0] 34).gr g2
  have G2 := (((Gr.refl w).alloc _).trans g2).bl
  simp at hb2
  have hz : (a.map gd).take 0 ++ List.replicate (n - 0) 0 = List.replicate n 0 := by simp
  rw [← hz] at C2
  clear hz cx cy cn g2
  go_wp2_with fail
  have M2 := At.new w2 #[.int .i64 (1 + rx), .int .i64 (1 + ry), .slice (some ⟨b, 0, none⟩) n n] 34
  have hs2 := G2.size
  have hl2 := C2.lt
  have hr2 := R2.lt
  replace R2 := R2.alloc (.cells #[.int .i64 (1 + rx), .int .i64 (1 + ry), .slice (some ⟨b, 0, none⟩) n n] 34)
  replace C2 := C2.alloc (.cells #[.int .i64 (1 + rx), .int .i64 (1 + ry), .slice (some ⟨b, 0, none⟩) n n] 34)
  replace G2 := G2.alloc (.cells #[.int .i64 (1 + rx), .int .i64 (1 + ry), .slice (some ⟨b, 0, none⟩) n n] 34)
  obtain ⟨bm, hbm⟩ : ∃ bm, bm = w2.heap.size := ⟨_, rfl⟩
  rw [← hbm] at M2 ⊢
  have hbm' : b < bm ∧ w.heap.size < bm := by omega
  obtain ⟨hbm1, hbm2⟩ := hbm'
  clear hbm hl2 hr2 hs2
  go_loopw [8] (fun i wr => ∃ k : Nat, k ≤ n ∧ k ≤ la ∧ i = .int .i64 k ∧ At wr b (cC ((a.map gd).take k ++ List.replicate (n - k) 0)) 39 ∧ At wr w.heap.size #[.int .i64 0, .int .i64 0, .slice none 0 0] 34 ∧
      At wr bm #[.int .i64 (1 + rx), .int .i64 (1 + ry), .slice (some ⟨b, 0, none⟩) n n] 34 ∧ Bl w wr) (fun i _ => n - (intOf i).toNat)
  case atStart => exact ⟨0, Nat.zero_le _, Nat.zero_le _, rfl, C2, R2, M2, G2⟩
  case round =>
    obtain ⟨k, hk, hka, rfl, Ck, Rk, Mk, Gk⟩ := hrel
    obtain ⟨m0, m1, m2⟩ := cells3 Mk
    by_cases hlt : k < n ∧ k < la
    · obtain ⟨hl1, hl2⟩ := hlt
      rcases (hA.bl Gk) with h | ⟨ba, off, rfl, hr⟩
      · subst h; exfalso; have := hlaa.out; simp at this; omega
      · obtain ⟨q, hq⟩ : ∃ q, a[k]? = some q := ⟨a[k]'(by rw [← hlaa.out]; exact hl2), List.getElem?_eq_getElem _⟩
        have hq32 := h32 q (get_of hq).1
        have hgd : (a.map gd)[k]? = some (gd q) := by rw [List.getElem?_map, hq]; rfl
        have hset := take_set_z hl1 hgd
        have cg := fun w => cgood1 q w hq32
        have c1 := hr k q hq
        have hbl := World.block_lt_of_cell? wr _ c1
        have c1' : ∀ w', Gr wr w' → w'.cell? ⟨ba, off + k, none⟩ = some (.int .u32 q) := fun w' g => (g.cell hbl).trans c1
        obtain ⟨old, hold⟩ : ∃ old, (cC ((a.map gd).take k ++ List.replicate (n - k) 0))[k]? = some (.int .u32 old) := by
          rw [cC_get]
          obtain ⟨o, ho⟩ := list_at (l := (a.map gd).take k ++ List.replicate (n - k) 0) (k := k) (by have := hlaa.out; simp; omega)
          exact ⟨o, by rw [ho]; rfl⟩
        have hset' := Lib.hid hset
        have hold' := Lib.hid hold
        clear hq hgd hset hold hr hbl
        generalize gd q = gq at *
        go_wp2
        go_region_with (go_at_call 54; refine (cg _).mono ?_; rintro e w3 ⟨rfl, g3⟩; have u1 := (Mk.drew.gr g3).cell 2; have u2 := ((Ck.drew.gr g3).cell k).trans hold'.out; have u3 := (Ck.drew.gr g3).free k; simp at u1)
        all_goals
          clear u1 u2 u3 c1 c1' hold' m0 m1 m2 cg
          have C3 := ((Ck.drew.gr g3).put k (.int .u32 gq))
          rw [cC_set, hset'.out] at C3
          have R3 := (Rk.drew.gr g3).far (p := ⟨b, k, none⟩) (by simp; omega) (.int .u32 gq)
          have M3 := (Mk.drew.gr g3).far (p := ⟨b, k, none⟩) (by simp; omega) (.int .u32 gq)
          have G3 := (Gk.drew.gr g3).setCell (p := ⟨b, k, none⟩) (by simp; omega) (.int .u32 gq)
          go_wp2
          go_roundw
          case rel => exact ⟨k + 1, by omega, by omega, by simp, C3, R3, M3, G3⟩
          case measure => simp [intOf]; omega
    · obtain ⟨r0, r1, r2⟩ := cells3 Rk
      obtain ⟨f0, f1, f2, _⟩ := free4 Rk
      have hend : k = n ∨ k = a.length := by have := hlaa.out; omega
      rw [goodL_end hend ⟨hk, by rw [← hlaa.out]; exact hka⟩] at Ck
      have hor : k = la ∨ (k < la ∧ n ≤ k) := by have := hlaa.out; omega
      clear hend hlt
      rcases hor with h | ⟨h, h'⟩
      all_goals
        go_wp2
        have P := Rk.put3 (.int .i64 (1 + rx)) (.int .i64 (1 + ry)) (.slice (some ⟨b, 0, none⟩) n n)
        have C := Ck.far3 (k := w.heap.size) (by omega) (.int .i64 (1 + rx)) (.int .i64 (1 + ry)) (.slice (some ⟨b, 0, none⟩) n n)
        have G := Gk.put3 (Nat.le_refl _) (.int .i64 (1 + rx)) (.int .i64 (1 + ry)) (.slice (some ⟨b, 0, none⟩) n n)
        generalize ((wr.setCell ⟨w.heap.size, 0, none⟩ (.int .i64 (1 + rx))).setCell ⟨w.heap.size, 1, none⟩ (.int .i64 (1 + ry))).setCell ⟨w.heap.size, 2, none⟩ (.slice (some ⟨b, 0, none⟩) n n) = V at P C G ⊢
        obtain ⟨d0, d1, d2⟩ := cells3 P
        exact bodyPost_ret (v := .agg #[.int .i64 (1 + rx), .int .i64 (1 + ry), .slice (some ⟨b, 0, none⟩) n n]) (by simp [results, Try.results15, go_sem, d0, d1, d2]) rfl ⟨b, rfl, C, by omega, G⟩

end Go.Proofs.Ytafceieenhogpaa
namespace Go.Proofs.Ytafceieenhogpaa
open Go.RowKit Go.Sort Go.Deep

/-- f 0, .., f (k - 1). -/
def upto (f : Nat → Int) (k : Nat) : List Int := (List.range k).map f
theorem upto_succ (f : Nat → Int) (k : Nat) : upto f (k + 1) = upto f k ++ [f k] := by simp [upto, List.range_succ]
theorem upto_len (f : Nat → Int) (k : Nat) : (upto f k).length = k := by simp [upto]
theorem upto_get (f : Nat → Int) (k i : Nat) : (upto f k)[i]? = if i < k then some (f i) else none := by
  unfold upto
  rw [List.getElem?_map]
  by_cases h : i < k
  · rw [if_pos h, List.getElem?_range h]; rfl
  · rw [if_neg h, List.getElem?_eq_none (by simp; omega)]; rfl
/-- How many of the first k are so. -/
def cntI (p : Nat → Bool) (k : Nat) : Nat := ((List.range k).filter p).length
theorem cntI_succ (p : Nat → Bool) (k : Nat) : cntI p (k + 1) = cntI p k + if p k then 1 else 0 := by
  unfold cntI; rw [List.range_succ, List.filter_append, List.length_append]
  cases h : p k <;> simp [h]
theorem Gr.put3 {a w : World} (h : Gr a w) {k : Nat} (hk : a.heap.size ≤ k) (u0 u1 u2 : Value) : Gr a (((w.setCell ⟨k, 0, none⟩ u0).setCell ⟨k, 1, none⟩ u1).setCell ⟨k, 2, none⟩ u2) :=
  ((h.setCell (p := ⟨k, 0, none⟩) hk u0).setCell (p := ⟨k, 1, none⟩) hk u1).setCell (p := ⟨k, 2, none⟩) hk u2
theorem RowN.far {k : IntKind} {w : World} {b off : Nat} {L : List Int} (h : RowN k w b off L) {p : Addr} (hp : b ≠ p.block) (u : Value) : RowN k (w.setCell p u) b off L :=
  h.kept (by_set (by_refl w _) (p := p) u) (by simp; exact hp)
theorem RowN.far3 {k : IntKind} {w : World} {b off : Nat} {L : List Int} (h : RowN k w b off L) {c : Nat} (hp : b ≠ c) (u0 u1 u2 : Value) : RowN k (((w.setCell ⟨c, 0, none⟩ u0).setCell ⟨c, 1, none⟩ u1).setCell ⟨c, 2, none⟩ u2) b off L :=
  ((h.far (p := ⟨c, 0, none⟩) hp u0).far (p := ⟨c, 1, none⟩) hp u1).far (p := ⟨c, 2, none⟩) hp u2
theorem cntI_le (p : Nat → Bool) (k : Nat) : cntI p k ≤ k := by
  have := List.length_filter_le p (List.range k); rw [List.length_range] at this; exact this

set_option maxRecDepth 100000 in
set_option maxHeartbeats 2000000 in
theorem refFill0 {W H b c n : Nat} (w : World) (p r s t : Int) (q : Int) (hq : C32 q) (hm : mayC q = false) :
    Calls Try.prog 19 #[.agg #[.int .i64 W, .int .i64 H, .slice (some ⟨b, 0, none⟩) n c], .agg #[.int .i64 p, .int .i64 r, .int .i64 s, .int .i64 t], .int .u32 q] w
      (Rt w (.tuple #[.agg #[.int .i64 W, .int .i64 H, .slice (some ⟨b, 0, none⟩) n c], .int .i64 0])) := by
  have cm := fun w => refcmay1 q w hq
  rw [hm] at cm
  have G0 := ((((Gr.refl w).alloc (.cells #[.int .i64 W, .int .i64 H, .slice (some ⟨b, 0, none⟩) n c] 34)).alloc (.cells #[.int .i64 p, .int .i64 r, .int .i64 s, .int .i64 t] 24)).alloc (.cells #[.int .i64 0, .int .i64 0, .slice none 0 0] 34))
  have M0 := ((At.new w #[.int .i64 W, .int .i64 H, .slice (some ⟨b, 0, none⟩) n c] 34).alloc (.cells #[.int .i64 p, .int .i64 r, .int .i64 s, .int .i64 t] 24)).alloc (.cells #[.int .i64 0, .int .i64 0, .slice none 0 0] 34)
  have R0 := At.newAt (w := (w.alloc (.cells #[.int .i64 W, .int .i64 H, .slice (some ⟨b, 0, none⟩) n c] 34)).alloc (.cells #[.int .i64 p, .int .i64 r, .int .i64 s, .int .i64 t] 24)) (n := w.heap.size + 1 + 1) (by simp) #[.int .i64 0, .int .i64 0, .slice none 0 0] 34
  go_enter Try.func19, Try.ntmps19
  go_wp2_with fail
  refine (cm _).mono ?_
  rintro e w1 ⟨rfl, g1⟩
  replace G0 := G0.trans g1
  obtain ⟨m0, m1, m2⟩ := cells3 (M0.gr g1)
  replace R0 := R0.gr g1
  obtain ⟨r0, r1, r2⟩ := cells3 R0
  obtain ⟨f0, f1, f2, _⟩ := free4 R0
  clear g1 cm M0
  go_wp2
  have P := R0.put3 (.int .i64 W) (.int .i64 H) (.slice (some ⟨b, 0, none⟩) n c)
  have G := G0.put3 (k := w.heap.size + 1 + 1) (by omega) (.int .i64 W) (.int .i64 H) (.slice (some ⟨b, 0, none⟩) n c)
  generalize ((w1.setCell ⟨w.heap.size + 1 + 1, 0, none⟩ (.int .i64 W)).setCell ⟨w.heap.size + 1 + 1, 1, none⟩ (.int .i64 H)).setCell ⟨w.heap.size + 1 + 1, 2, none⟩ (.slice (some ⟨b, 0, none⟩) n c) = V at P G ⊢
  obtain ⟨d0, d1, d2⟩ := cells3 P
  exact bodyPost_ret (v := .tuple #[.agg #[.int .i64 W, .int .i64 H, .slice (some ⟨b, 0, none⟩) n c], .int .i64 0]) (by simp [results, Try.results19, go_sem, d0, d1, d2]) rfl ⟨rfl, G⟩

set_option maxRecDepth 100000 in
set_option maxHeartbeats 4000000 in
theorem refFill1 {W H b c : Nat} {L : List Int} (w : World) (hR : RowN .u32 w b 0 L) (hl : L.length = W * H) (w1 : 1 ≤ W) (w2 : W ≤ 256) (h1 : 1 ≤ H) (h2 : H ≤ 256) (p r s t : Int) (q : Int) (hq : C32 q) (hm : mayC q = true) :
    Calls Try.prog 19 #[.agg #[.int .i64 W, .int .i64 H, .slice (some ⟨b, 0, none⟩) L.length c], .agg #[.int .i64 p, .int .i64 r, .int .i64 s, .int .i64 t], .int .u32 q] w
      (fun e w' => ∃ b' c', e = .returned (.tuple #[.agg #[.int .i64 W, .int .i64 H, .slice (some ⟨b', 0, none⟩) L.length c'], .int .i64 (cntI (fun i => hasB p r s t (i % W : Nat) (i / W : Nat)) L.length : Nat)]) ∧
        RowN .u32 w' b' 0 (upto (fun i => if hasB p r s t (i % W : Nat) (i / W : Nat) then q else L.getD i 0) L.length) ∧ w.heap.size ≤ b' ∧ Bl w w') := by
  have hle := area_le w2 h2
  have hn0 : 0 < L.length := by rw [hl]; exact Nat.mul_pos w1 h1
  rw [← hl] at hle
  have cm := fun w => refcmay1 q w hq
  rw [hm] at cm
  have hget : ∀ k, k < L.length → L[k]? = some (L.getD k 0) := fun k hk => by rw [List.getD, List.getElem?_eq_getElem hk]; rfl
  obtain ⟨n, hn⟩ : ∃ n, n = L.length := ⟨_, rfl⟩
  rw [← hn] at hle hl hget hn0 ⊢
  have hll := Lib.hid hl
  have hgett := Lib.hid hget
  clear hn hl hget
  have G0 := ((((Gr.refl w).alloc (.cells #[.int .i64 W, .int .i64 H, .slice (some ⟨b, 0, none⟩) n c] 34)).alloc (.cells #[.int .i64 p, .int .i64 r, .int .i64 s, .int .i64 t] 24)).alloc (.cells #[.int .i64 0, .int .i64 0, .slice none 0 0] 34))
  have M0 := ((At.new w #[.int .i64 W, .int .i64 H, .slice (some ⟨b, 0, none⟩) n c] 34).alloc (.cells #[.int .i64 p, .int .i64 r, .int .i64 s, .int .i64 t] 24)).alloc (.cells #[.int .i64 0, .int .i64 0, .slice none 0 0] 34)
  have E0 := (At.newAt (w := w.alloc (.cells #[.int .i64 W, .int .i64 H, .slice (some ⟨b, 0, none⟩) n c] 34)) (n := w.heap.size + 1) (by simp) #[.int .i64 p, .int .i64 r, .int .i64 s, .int .i64 t] 24).alloc (.cells #[.int .i64 0, .int .i64 0, .slice none 0 0] 34)
  have R0 := At.newAt (w := (w.alloc (.cells #[.int .i64 W, .int .i64 H, .slice (some ⟨b, 0, none⟩) n c] 34)).alloc (.cells #[.int .i64 p, .int .i64 r, .int .i64 s, .int .i64 t] 24)) (n := w.heap.size + 1 + 1) (by simp) #[.int .i64 0, .int .i64 0, .slice none 0 0] 34
  go_enter Try.func19, Try.ntmps19
  go_wp2_with fail
  refine (cm _).mono ?_
  rintro e v1 ⟨rfl, g1⟩
  replace G0 := (G0.trans g1).bl
  replace M0 := M0.gr g1
  replace R0 := R0.gr g1
  replace E0 := E0.gr g1
  have bs1 := R0.lt
  obtain ⟨bm, hbm⟩ : ∃ bm, bm = w.heap.size := ⟨_, rfl⟩
  obtain ⟨B, hB⟩ : ∃ B, B = v1.heap.size := ⟨_, rfl⟩
  have bs2 : bm + 1 + 1 < B := by omega
  rw [← hbm] at M0 R0 E0 ⊢
  have hBv : B ≤ v1.heap.size := by omega
  have hwm : w.heap.size ≤ bm := by omega
  have hwB : w.heap.size ≤ B := by omega
  clear g1 cm bs1 hbm hB
  go_wp2_with fail
  go_loopw [9, 10, 11] (fun l m i wr => ∃ (k : Nat) (A : Option Addr) (c' : Nat), k ≤ n ∧ i = .int .i64 k ∧ m = .int .i64 (cntI (fun i => hasB p r s t (i % W : Nat) (i / W : Nat)) k : Nat) ∧ l = .slice A k c' ∧
      OwN .u32 39 wr B A c' (upto (fun i => if hasB p r s t (i % W : Nat) (i / W : Nat) then q else L.getD i 0) k) ∧
      At wr bm #[.int .i64 W, .int .i64 H, .slice (some ⟨b, 0, none⟩) n c] 34 ∧ At wr (bm + 1) #[.int .i64 p, .int .i64 r, .int .i64 s, .int .i64 t] 24 ∧ At wr (bm + 1 + 1) #[.int .i64 0, .int .i64 0, .slice none 0 0] 34 ∧ Bl w wr ∧ B ≤ wr.heap.size)
    (fun _ _ i _ => n - (intOf i).toNat)
  case atStart => exact ⟨0, none, 0, Nat.zero_le _, rfl, rfl, rfl, OwN.nil _ _ _ _, M0, E0, R0, G0, hBv⟩
  case round =>
    obtain ⟨k, A, c', hk, rfl, rfl, rfl, ow, Mk, Ek, Rk, Gk, hBk⟩ := hrel
    obtain ⟨m0, m1, m2⟩ := cells3 Mk
    by_cases hlt : k < n
    · obtain ⟨d1, d2, d3⟩ := div_of (k := k) (H := H) w1 (by rw [← hll.out]; exact hlt)
      obtain ⟨i, j, hi, hj, x1, x2, x3, x4, x5, x6, x7, x8⟩ := rem_quo k W w1 (by omega)
      have hs : hasB p r s t (k % W : Nat) (k / W : Nat) = hasB p r s t i j := by rw [hi, hj]
      have ch := fun w => refhas1 p r s t i j w
      have hsucc := upto_succ (fun i => if hasB p r s t (i % W : Nat) (i / W : Nat) then q else L.getD i 0) k
      have hcnt := cntI_succ (fun i => hasB p r s t (i % W : Nat) (i / W : Nat)) k
      have hle2 := cntI_le (fun i => hasB p r s t (i % W : Nat) (i / W : Nat)) k
      rw [hs] at hsucc hcnt
      clear hi hj d1 d2 d3 hs
      have hx := hgett.out k hlt
      generalize L.getD k 0 = x at *
      have c1 : ∀ wr', Gr wr wr' → wr'.cell? ⟨b, k, none⟩ = some (.int .u32 x) := fun wr' g => by have := (hR.bl (Gk.gr g)) _ _ hx; rwa [Nat.zero_add] at this
      clear hx
      have hsuc := Lib.hid hsucc
      have hcn := Lib.hid hcnt
      clear hsucc hcnt
      generalize hfdef : (fun i : Nat => if hasB p r s t (i % W : Nat) (i / W : Nat) then q else L.getD i 0) = f at *
      generalize (fun i : Nat => hasB p r s t (i % W : Nat) (i / W : Nat)) = pp at *
      have m0 := fun q os => Mk.cells q os 0; have m1 := fun q os => Mk.cells q os 1; have m2 := fun q os => Mk.cells q os 2
      have e0 := fun q os => Ek.cells q os 0; have e1 := fun q os => Ek.cells q os 1; have e2 := fun q os => Ek.cells q os 2; have e3 := fun q os => Ek.cells q os 3
      simp at m0 m1 m2 e0 e1 e2 e3
      have hm2 : wr.cell? ⟨bm, 2, none⟩ = some (.slice (some ⟨b, 0, none⟩) n c) := Mk.cell 2
      cases hh : hasB p r s t i j
      all_goals
        rw [hh] at ch hsuc hcn
        go_wp2
        refine wp_region_quiet_grown (by kernel_rfl) (by kernel_rfl) ?_
        repeat (first | go_big_quiet_step ((go_at_call 62; exact Calls.grown (ch _))) | quiet_step ((go_at_call 62; exact Calls.grown (ch _))))
        refine wpQuiet_nil ?_
        intro W3 g9
        replace g9 : Gr _ W3 := g9
        have cx := c1 _ g9
        have z2 : W3.cell? ⟨bm, 2, none⟩ = some (.slice (some ⟨b, 0, none⟩) n c) := (Mk.gr g9).cell 2
        replace ow := ow.gr g9
        replace Mk := Mk.gr g9
        replace Ek := Ek.gr g9
        replace Rk := Rk.gr g9
        replace Gk := Gk.gr g9
        have hB3 : B ≤ W3.heap.size := Nat.le_trans hBk g9.size
        clear m0 m1 m2 e0 e1 e2 e3 c1 hm2 ch
      · have al := ow.gr ((Gr.refl W3).alloc (.cells #[.int .u32 x] 39))
        have aM := Mk.alloc (.cells #[.int .u32 x] 39)
        have aE := Ek.alloc (.cells #[.int .u32 x] 39)
        have aR := Rk.alloc (.cells #[.int .u32 x] 39)
        have aG := Gk.alloc (.cells #[.int .u32 x] 39)
        go_wp2_with (at_builtin; refine wp_app_n Try.underlying31 infoC rfl (by decide) rfl (.tmp 40) (.tmp 46) rfl A c' (upto f k) (by rw [upto_len]; rfl) B al W3.heap.size 0 [x] 1 rfl (row_one (At.new W3 #[.int .u32 x] 39)) (by simp) (by rw [upto_len]; simp; omega) (by simp; omega) ?_; intro A' c2 w' ow2 ap2 ex2; rw [upto_len])
        have G2 := ap2.bl aG al hwB
        have M2 := ap2.at al aM (by omega)
        have E2 := ap2.at al aE (by omega)
        have R2 := ap2.at al aR (by omega)
        have s2 := ap2.size
        simp at s2
        go_roundw
        case rel => exact ⟨k + 1, A', c2, by omega, by simp, by rw [hcn.out]; simp, rfl, by rw [hsuc.out]; exact ow2, M2, E2, R2, G2, by omega⟩
        case measure => simp [intOf]; omega
      · have al := ow.gr ((Gr.refl W3).alloc (.cells #[.int .u32 q] 39))
        have aM := Mk.alloc (.cells #[.int .u32 q] 39)
        have aE := Ek.alloc (.cells #[.int .u32 q] 39)
        have aR := Rk.alloc (.cells #[.int .u32 q] 39)
        have aG := Gk.alloc (.cells #[.int .u32 q] 39)
        go_wp2_with (at_builtin; refine wp_app_n Try.underlying31 infoC rfl (by decide) rfl (.tmp 34) (.tmp 36) rfl A c' (upto f k) (by rw [upto_len]; rfl) B al W3.heap.size 0 [q] 1 rfl (row_one (At.new W3 #[.int .u32 q] 39)) (by simp) (by rw [upto_len]; simp; omega) (by simp; omega) ?_; intro A' c2 w' ow2 ap2 ex2; rw [upto_len])
        have G2 := ap2.bl aG al hwB
        have M2 := ap2.at al aM (by omega)
        have E2 := ap2.at al aE (by omega)
        have R2 := ap2.at al aR (by omega)
        have s2 := ap2.size
        simp at s2
        go_roundw
        case rel => exact ⟨k + 1, A', c2, by omega, by simp, by rw [hcn.out]; simp, rfl, by rw [hsuc.out]; exact ow2, M2, E2, R2, G2, by omega⟩
        case measure => simp [intOf]; omega
    · obtain rfl : k = n := by omega
      obtain ⟨r0, r1, r2⟩ := cells3 Rk
      obtain ⟨f0, f1, f2, _⟩ := free4 Rk
      have fm := Mk.free 2
      obtain ⟨g, rfl, hgB, _⟩ : ∃ g, A = some ⟨g, 0, none⟩ ∧ B ≤ g ∧ g < wr.heap.size := by
        rcases ow.addr with ⟨_, _, h⟩ | h
        · exfalso; have := upto_len (fun i => if hasB p r s t (i % W : Nat) (i / W : Nat) then q else L.getD i 0) k; rw [h] at this; simp at this; omega
        · exact h
      have X1 := Mk.put 2 (.slice (some ⟨g, 0, none⟩) k c')
      simp at X1
      have X2 := Rk.far (p := ⟨bm, 2, none⟩) (by simp; omega) (.slice (some ⟨g, 0, none⟩) k c')
      have X3 := Gk.setCell (p := ⟨bm, 2, none⟩) (by simp; omega) (.slice (some ⟨g, 0, none⟩) k c')
      have X4 := ow.row.kept (by_set (by_refl wr _) (p := ⟨bm, 2, none⟩) (.slice (some ⟨g, 0, none⟩) k c')) (by simp; omega)
      go_wp2
      have P := X2.put3 (.int .i64 W) (.int .i64 H) (.slice (some ⟨g, 0, none⟩) k c')
      have G := X3.put3 (k := bm + 1 + 1) (by omega) (.int .i64 W) (.int .i64 H) (.slice (some ⟨g, 0, none⟩) k c')
      have C := ((X4.far (p := ⟨bm + 1 + 1, 0, none⟩) (by simp; omega) (.int .i64 W)).far (p := ⟨bm + 1 + 1, 1, none⟩) (by simp; omega) (.int .i64 H)).far (p := ⟨bm + 1 + 1, 2, none⟩) (by simp; omega) (.slice (some ⟨g, 0, none⟩) k c')
      generalize (((wr.setCell ⟨bm, 2, none⟩ (.slice (some ⟨g, 0, none⟩) k c')).setCell ⟨bm + 1 + 1, 0, none⟩ (.int .i64 W)).setCell ⟨bm + 1 + 1, 1, none⟩ (.int .i64 H)).setCell ⟨bm + 1 + 1, 2, none⟩ (.slice (some ⟨g, 0, none⟩) k c') = V at P C G ⊢
      obtain ⟨d0, d1, d2⟩ := cells3 P
      exact bodyPost_ret (v := .tuple #[.agg #[.int .i64 W, .int .i64 H, .slice (some ⟨g, 0, none⟩) k c'], .int .i64 (cntI (fun i => hasB p r s t (i % W : Nat) (i / W : Nat)) k : Nat)]) (by simp [results, Try.results19, go_sem, d0, d1, d2]) rfl ⟨g, c', rfl, C, by omega, G⟩

end Go.Proofs.Ytafceieenhogpaa
namespace Go.Proofs.Ytafceieenhogpaa
open Go.RowKit Go.Sort Go.Shelf

attribute [local go_sem] Oper.semAt_some

/-- Whether all colors of these rows, from x0 up to x1, are solid. -/
def rowS (L : List Int) (p k : Nat) : Bool := ((L.drop p).take k).all fun c => pA c == 255
def allS (W x0 x1 : Nat) (L : List Int) (ys : List Nat) : Bool := ys.all fun y => rowS L (y * W + x0) (x1 - x0)
theorem rowS_succ {L : List Int} {p k : Nat} {c : Int} (h : L[p + k]? = some c) : rowS L p (k + 1) = (rowS L p k && (pA c == 255)) := by
  unfold rowS
  rw [List.take_add_one, List.getElem?_drop, h]
  simp
theorem rowS_part {L : List Int} {p k m : Nat} (h : k ≤ m) (hf : rowS L p k = false) : rowS L p m = false := by
  unfold rowS at *
  rw [show m = k + (m - k) by omega, List.take_add, List.all_append, hf]; rfl
theorem allS_snoc (W x0 x1 : Nat) (L : List Int) (ys : List Nat) (y : Nat) : allS W x0 x1 L (ys ++ [y]) = (allS W x0 x1 L ys && rowS L (y * W + x0) (x1 - x0)) := by simp [allS]
theorem allS_pre {W x0 x1 : Nat} {L : List Int} {ys zs : List Nat} (h : ys <+: zs) (hf : allS W x0 x1 L ys = false) : allS W x0 x1 L zs = false := by
  obtain ⟨t, rfl⟩ := h
  unfold allS at *
  rw [List.all_append, hf]; rfl

theorem Gr.keeps {w w' : World} (g : Gr w w') : KeepsOthers w w' := ⟨g.size, fun k _ hk _ => (g.below.block k (Array.getElem?_eq_some_iff.1 hk).1).trans hk⟩
theorem Gr.keep3 {w w' : World} (g : Gr w w') {p q r : Nat} (hp : p < w.heap.size) (hq : q < w.heap.size) (hr : r < w.heap.size) : Keep3 p q r w w' := ⟨g.below.block _ hp, g.below.block _ hq, g.below.block _ hr⟩
theorem ownSize {β : Type} (B n : Nat) : OwnFrom B (fun (_ : β) V => n ≤ V.heap.size) := fun _ _ _ _ hs hg _ => Nat.le_trans hs hg.size
theorem bl_of {w w' : World} (h : w.grownBy w' none) : Bl w w' := ⟨h.os, h.tape, h.output, h.size, fun k hk => h.block k hk (by simp)⟩

set_option maxRecDepth 100000 in
set_option maxHeartbeats 4000000 in
theorem solid1 {pm pc W H : Nat} {L : List Int} (w : World) (hI : Img w pm pc W H L) (h32 : ∀ c ∈ L, C32 c) (a b c d : Int) (x0 x1 y0 y1 : Nat) (hcut : cutR a b c d 0 0 W H = ⟨x0, y0, x1, y1⟩) (hx : y0 < y1 → x0 < x1) (hw : x1 ≤ W) (hy : y0 ≤ y1) (hh : y1 ≤ H) :
    Calls Try.prog 32 #[.pointer (some ⟨pm, 0, none⟩), .agg #[.int .i64 a, .int .i64 b, .int .i64 c, .int .i64 d]] w
      (fun e w' => e = .returned (.bool (allS W x0 x1 L (List.range' y0 (y1 - y0)))) ∧ Bl w w') := by
  have cc := fun w => cut1 a b c d 0 0 W H w
  rw [hcut] at cc
  dsimp only at cc
  clear hcut
  have mixed : Try.prog.follows .mixedOrders = true := by kernel_rfl
  refine (callsIn_wide (n := 5)).1 ?_
  refine callsIn_of_wp_marks Try.func32 rfl trivial ?_ rfl
  simp only [Try.ntmps32, List.size_toArray, List.length_cons, List.length_nil, Nat.reduceAdd, Nat.reduceSub, Array.replicate_succ, Array.replicate_zero, List.push_toArray, List.append_toArray, List.nil_append, List.cons_append]
  have g1 := ((Gr.refl w).alloc (.cells #[.int .i64 a, .int .i64 b, .int .i64 c, .int .i64 d] 24)).alloc (.cells #[.bool false] 4)
  have r1 := (At.new w #[.int .i64 a, .int .i64 b, .int .i64 c, .int .i64 d] 24).alloc (.cells #[.bool false] 4)
  have q1 := At.newAt (w := w.alloc (.cells #[.int .i64 a, .int .i64 b, .int .i64 c, .int .i64 d] 24)) (n := w.heap.size + 1) (by simp) #[.bool false] 4
  have I1 := hI.gr g1
  gi_wp2
  rename_i K hK
  obtain ⟨V1, hV1⟩ : ∃ V1, V1 = (w.alloc (.cells #[.int .i64 a, .int .i64 b, .int .i64 c, .int .i64 d] 24)).alloc (.cells #[.bool false] 4) := ⟨_, rfl⟩
  rw [← hV1] at g1 r1 q1 I1 ⊢
  clear hV1
  have rest : ∀ (U : World) (Bm Br : Nat), At U (w.heap.size + 1) #[.bool false] 4 → At U Bm #[.pointer (some ⟨pm, 0, none⟩)] 36 → At U Br #[.int .i64 x0, .int .i64 y0, .int .i64 x1, .int .i64 y1] 24 → Gr w U →
      K { tmps := #[.pointer (some ⟨pm, 0, none⟩), .agg #[.int .i64 a, .int .i64 b, .int .i64 c, .int .i64 d], undef, .pointer (some ⟨w.heap.size, 0, none⟩), .pointer (some ⟨w.heap.size + 1, 0, none⟩), undef, undef, undef, undef,
          .pointer (some ⟨pm, 0, none⟩), .agg #[.int .i64 a, .int .i64 b, .int .i64 c, .int .i64 d], .pointer (some ⟨pm, 0, none⟩), .agg #[.int .i64 0, .int .i64 0, .int .i64 W, .int .i64 H], .agg #[.int .i64 x0, .int .i64 y0, .int .i64 x1, .int .i64 y1],
          .func (.func 90) #[] #[.pointer (some ⟨Br, 0, none⟩), .pointer (some ⟨Bm, 0, none⟩)],
          undef, undef, undef, undef, undef, undef, undef, undef, undef, undef, undef, undef], defers := [] } U := by
    intro U Bm Br qU bm br GU
    refine hK _ _ ?_
    clear hK r1 q1 I1 g1 cc mixed
    have IU := hI.gr GU
    have hlt4 := hI.hd.lt
    have hlt5 := hI.cs.lt
    have hsU := GU.size
    have hBm := bm.lt
    have hBr := br.lt
    have hlr := qU.lt
    gi_wp2
    refine wpIn_rangeFunc_ownG rfl (by omega) (gf := 90) (lb := #[.pointer (some ⟨Br, 0, none⟩), .pointer (some ⟨Bm, 0, none⟩)]) rfl trivial (enters_of Try.func90 (by kernel_rfl) rfl)
      (spansStops (5 - 1) (by omega) Bm Br _ _ pm pc W H L.length L.length x0 x1 y0 y1 hx hw hy hh U IU.hd (Nat.le_refl _) IU.len IU.w2 IU.h2 bm br)
      (fun h k => h.trans k) (Keep3.book (by omega) (by omega) (by omega)) (Below.refl _ _) (fun _ => rfl)
      (fun pre V' => Img V' pm pc W H L ∧ At V' (w.heap.size + 1) #[.bool false] 4 ∧ w.grownBy V' none ∧ U.heap.size ≤ V'.heap.size ∧ allS W x0 x1 L (pre.map (·.1)) = true)
      (fun c pre V' => c = .ret ∧ At V' (w.heap.size + 1) #[.bool false] 4 ∧ w.grownBy V' none ∧ allS W x0 x1 L (pre.map (·.1)) = false)
      ((ownImg _ _ _ _ _ _).and ((ownAt _ _ _ _).and ((ownBy _ (by omega)).and ((ownSize _ _).and (ownFrom_pure _ _)))))
      (fun c => (ownFrom_pure _ _).and ((ownAt _ _ _ _).and ((ownBy _ (by omega)).and (ownFrom_pure _ _))))
      ⟨IU, qU, GU.by _, Nat.le_refl _, rfl⟩
      (fun x => { tmps := #[.pointer (some ⟨pm, 0, none⟩), .agg #[.int .i64 a, .int .i64 b, .int .i64 c, .int .i64 d], undef, .pointer (some ⟨w.heap.size, 0, none⟩), .pointer (some ⟨w.heap.size + 1, 0, none⟩), undef, .slice (some ⟨pc, x.1 * W + x0, none⟩) (x1 - x0) (L.length - (x.1 * W + x0)), undef, undef,
          .pointer (some ⟨pm, 0, none⟩), .agg #[.int .i64 a, .int .i64 b, .int .i64 c, .int .i64 d], .pointer (some ⟨pm, 0, none⟩), .agg #[.int .i64 0, .int .i64 0, .int .i64 W, .int .i64 H], .agg #[.int .i64 x0, .int .i64 y0, .int .i64 x1, .int .i64 y1],
          .func (.func 90) #[] #[.pointer (some ⟨Br, 0, none⟩), .pointer (some ⟨Bm, 0, none⟩)],
          .int .i64 (x.1 : Int), .slice (some ⟨pc, x.1 * W + x0, none⟩) (x1 - x0) (L.length - (x.1 * W + x0)), undef, undef, undef, undef, undef, undef, undef, undef, undef, undef], defers := [] }) ?assign ?body ?done ?stop
    case assign =>
      intro l x W' K' hK'
      dsimp only [rowV]
      gi_wp2
      exact hK'
    case body =>
      rintro l pre x W' ⟨hi, hr, hb, hsz, hall⟩ hlen
      have hf : allS W x0 x1 L ((pre ++ [x]).map (·.1)) = (allS W x0 x1 L (pre.map (·.1)) && rowS L (x.1 * W + x0) (x1 - x0)) := by rw [List.map_append]; exact allS_snoc _ _ _ _ _ _
      rw [hall, Bool.true_and] at hf
      have hp : x.1 * W + x0 + (x1 - x0) ≤ L.length := by
        have := row_of (show x1 - 1 < W by omega) x.2
        rw [← hI.len] at this
        have := hx (by omega)
        omega
      have hle := area_le hI.w2 hI.h2
      rw [← hI.len] at hle
      have hget : ∀ k, k < L.length → ∃ c, L[k]? = some c ∧ C32 c := fun k hk => ⟨L[k], List.getElem?_eq_getElem hk, h32 _ (List.getElem_mem hk)⟩
      generalize L.length = n at *
      generalize x.1 * W + x0 = p at *
      obtain ⟨m, hm'⟩ : ∃ m, m = x1 - x0 := ⟨_, rfl⟩
      rw [← hm'] at hf hp ⊢
      clear hm'
      obtain ⟨cc, hcc⟩ : ∃ cc, cc = n - p := ⟨_, rfl⟩
      have hmc : m ≤ cc := by omega
      rw [← hcc]
      clear hcc
      have hf' := Lib.hid hf
      have hall' := Lib.hid hall
      have hgett := Lib.hid hget
      clear hf hall hget h32
      gi_wp2
      gi_loopw [19] (fun i wr => ∃ k : Nat, k ≤ m ∧ i = .int .i64 k ∧ rowS L p k = true ∧ Gr W' wr)
        (fun i _ => m - (intOf i).toNat)
      case atStart => exact ⟨0, Nat.zero_le _, rfl, rfl, Gr.refl _⟩
      case round =>
        obtain ⟨k, hk, rfl, Sk, Gk⟩ := hrel
        have Ik := hi.gr Gk
        have qk := hr.gr Gk
        have Sk' := Lib.hid Sk
        clear Sk
        by_cases hlt : k < m
        · obtain ⟨q, hq, hq32⟩ := hgett.out (p + k) (by omega)
          have c1 := Ik.at hq
          have hsu := Lib.hid (rowS_succ hq)
          have cs := fun w => csolid1 q w hq32
          clear hq
          cases hso : (pA q == 255)
          · rw [hso] at cs hsu
            have z0 : ∀ w', Gr wr w' → w'.cell? ⟨w.heap.size + 1, 0, none⟩ = some (.bool false) ∧ w'.frozen? ⟨w.heap.size + 1, 0, none⟩ = false := fun w' g => ⟨(qk.gr g).cell 0, (qk.gr g).free 0⟩
            gi_wp2_with (refine ⟨trivial, ?_⟩; gi_at_call 75; refine (CallsIn.inRound l (callsIn_wide.2 (cs _))).mono ?_; rintro e w' ⟨rfl, g⟩; obtain ⟨z1, z2⟩ := z0 _ g)
            have q3 := (qk.gr g).put 0 (.bool false)
            simp at q3
            exact ⟨((Gk.keeps.trans g.keeps).trans (KeepsOthers.setCell _ _ _)).from _, rfl, q3, by_new (by_gr (by_gr hb Gk) g) (p := ⟨w.heap.size + 1, 0, none⟩) (by simp) _, by rw [hf'.out]; exact rowS_part (show k + 1 ≤ m by omega) (by rw [hsu.out, Sk'.out]; rfl)⟩
          · rw [hso] at cs hsu
            gi_wp2_with (refine ⟨trivial, ?_⟩; gi_at_call 75; refine (CallsIn.inRound l (callsIn_wide.2 (cs _))).mono ?_; rintro e w' ⟨rfl, g⟩)
            go_roundw
            case rel => exact ⟨k + 1, by omega, by simp, by rw [hsu.out, Sk'.out]; rfl, Gk.trans g⟩
            case measure => simp [intOf]; omega
        · obtain rfl : k = m := by omega
          gi_wp2
          exact ⟨Gk.keeps.from _, Gk.keep3 (by omega) (by omega) (by omega), hi.gr Gk, hr.gr Gk, by_gr hb Gk, by have := Gk.size; omega, by rw [hf'.out]; exact Sk'.out⟩
    case done =>
      rintro D ys W' hD hys ⟨hi, hr, hb, hsz, hall⟩ hK'
      have hys' := Lib.hid hys
      have hall' := Lib.hid hall
      clear hys hall
      have z1 : W'.cell? ⟨w.heap.size + 1, 0, none⟩ = some (.bool false) := hr.cell 0
      have z2 := hr.free 0
      gi_wp2
      have hX := hr.put 0 (.bool true)
      simp at hX
      have hbX := by_new hb (p := ⟨w.heap.size + 1, 0, none⟩) (by simp) (.bool true)
      have hKX : (W'.setCell ⟨w.heap.size + 1, 0, none⟩ (.bool true)).heap[D]? = some (.deferred (some [])) := (Below.heap_setCell _ _ _ _ (by simp; omega)).trans hK'
      generalize W'.setCell ⟨w.heap.size + 1, 0, none⟩ (.bool true) = X at hX hbX hKX ⊢
      refine ⟨by simp, .inl ⟨_, _, rfl, run_takeDeferred hKX, ?_⟩⟩
      have hgp := grownBy_putObj' X D (.deferred none)
      have c5 : (X.putObj D (.deferred none)).cell? ⟨w.heap.size + 1, 0, none⟩ = some (.bool true) := (hX.kept hgp (by simp; omega)).cell 0
      refine ⟨.bool true, ?_, by rw [← hys'.out, hall'.out], ?_⟩
      · simp [results, Try.results32, go_sem, c5]
      · exact bl_of (by_row hbX hgp (by omega))
    case stop =>
      rintro D cx pre W' hD hpre ⟨rfl, hr, hb, hall⟩ hK'
      gi_wp2
      refine ⟨by simp, .inl ⟨_, _, rfl, run_takeDeferred hK', ?_⟩⟩
      have hgp := grownBy_putObj' W' D (.deferred none)
      have c5 : (W'.putObj D (.deferred none)).cell? ⟨w.heap.size + 1, 0, none⟩ = some (.bool false) := (hr.kept hgp (by simp; omega)).cell 0
      refine ⟨.bool false, ?_, by rw [allS_pre hpre hall], ?_⟩
      · simp [results, Try.results32, go_sem, c5]
      · exact bl_of (by_row hb hgp (by omega))
  obtain ⟨t0, t1, t2, t3⟩ := cells4 r1
  have bx := fun (V : World) (h : Img V pm pc W H L) => box1 V h
  refine wpIn_mono (Q := Exit.then K (fun _ _ _ => False)) ?_ then_false
  gi_region_with_o (first | (refine ⟨trivial, ?_⟩; gi_at_call 60; refine (callsIn_wide.2 (bx _ (I1.gr (Gr.refl _).drew))).mono ?_; rintro e w2 ⟨rfl, g2⟩; have R2 := r1.drew.gr g2; obtain ⟨a0, a1, a2, a3⟩ := cells4 R2) | (refine ⟨trivial, ?_⟩; gi_at_call 63; refine (callsIn_wide.2 (cc _)).mono ?_; rintro e w3 ⟨rfl, g3⟩) | (refine ⟨trivial, ?_⟩; gi_at_call 64; refine (callsIn_wide.2 (spans1 _ _ _ _ _ _)).mono ?_; rintro e w4 ⟨rfl, rfl⟩))
  all_goals
    have G3 := ((g1.drew.trans g2).trans g3)
    have q3 := (q1.drew.gr g2).gr g3
    have bm := (At.new w3 #[.pointer (some ⟨pm, 0, none⟩)] 36).alloc (.cells #[.int .i64 x0, .int .i64 y0, .int .i64 x1, .int .i64 y1] 24)
    have br := At.newAt (w := w3.alloc (.cells #[.pointer (some ⟨pm, 0, none⟩)] 36)) (n := w3.heap.size + 1) (by simp) #[.int .i64 x0, .int .i64 y0, .int .i64 x1, .int .i64 y1] 24
    exact rest _ _ _ ((q3.alloc _).alloc _) bm br ((G3.alloc _).alloc _)

end Go.Proofs.Ytafceieenhogpaa
namespace Go.Proofs.Ytafceieenhogpaa
open Go.RowKit Go.Sort

/-- What a rectangle has of an image's box. -/
theorem cut_nat (a b c d : Int) (W H : Nat) : ∃ x0 y0 x1 y1 : Nat, cutR a b c d 0 0 W H = ⟨x0, y0, x1, y1⟩ ∧ x0 ≤ x1 ∧ (y0 < y1 → x0 < x1) ∧ x1 ≤ W ∧ y0 ≤ y1 ∧ y1 ≤ H ∧
    ∀ i j : Nat, i < W → j < H → hasB a b c d i j = decide (x0 ≤ i ∧ i < x1 ∧ y0 ≤ j ∧ j < y1) := by
  by_cases e : emptyB (max a 0) (max b 0) (min c W) (min d H) = true
  · refine ⟨0, 0, 0, 0, by unfold cutR; rw [if_pos e]; rfl, by omega, by omega, by omega, by omega, by omega, fun i j hi hj => ?_⟩
    simp [emptyB] at e
    rw [hasB, Bool.eq_iff_iff]
    simp
    omega
  · have e' := e
    simp [emptyB] at e'
    refine ⟨(max a 0).toNat, (max b 0).toNat, (min c W).toNat, (min d H).toNat, ?_, by omega, by omega, by omega, by omega, by omega, fun i j hi hj => ?_⟩
    · unfold cutR; rw [if_neg e]
      rw [show (((max a 0).toNat : Nat) : Int) = max a 0 by omega, show (((max b 0).toNat : Nat) : Int) = max b 0 by omega, show (((min c W).toNat : Nat) : Int) = min c W by omega, show (((min d H).toNat : Nat) : Int) = min d H by omega]
    · rw [hasB, Bool.eq_iff_iff]
      simp
      omega

/-- Row y, from x0 up to x1: which places these are. -/
theorem row_iff {W x0 x1 y i : Nat} (hx : x0 ≤ x1) (hw : x1 ≤ W) (h1 : 1 ≤ W) : (y * W + x0 ≤ i ∧ i < y * W + x0 + (x1 - x0)) ↔ (i / W = y ∧ x0 ≤ i % W ∧ i % W < x1) := by
  have hd := Nat.div_add_mod i W
  have hm := Nat.mod_lt i (show W > 0 by omega)
  rw [Nat.mul_comm] at hd
  constructor
  · rintro ⟨h, k⟩
    have e : i / W = y := by
      rw [Nat.div_eq_iff (by omega)]
      have := Nat.add_mul y 1 W
      omega
    rw [e] at hd
    omega
  · rintro ⟨rfl, h, k⟩
    omega
theorem fillR_get (W x0 x1 : Nat) (q : Int) (hx : x0 ≤ x1) (hw : x1 ≤ W) (h1 : 1 ≤ W) : ∀ (ys : List Nat) (L : List Int) (i : Nat), (fillR W x0 x1 q L ys)[i]? = if i < L.length ∧ x0 ≤ i % W ∧ i % W < x1 ∧ i / W ∈ ys then some q else L[i]?
  | [], L, i => by rw [if_neg (by simp)]; rfl
  | y :: ys, L, i => by
    show (fillR W x0 x1 q (putRun L (y * W + x0) (List.replicate (x1 - x0) q)) ys)[i]? = _
    rw [fillR_get W x0 x1 q hx hw h1 ys, putRun_len, putRun_get, List.length_replicate]
    have r := row_iff (y := y) (i := i) hx hw h1
    by_cases h : i < L.length ∧ x0 ≤ i % W ∧ i % W < x1 ∧ i / W ∈ ys
    · rw [if_pos h, if_pos ⟨h.1, h.2.1, h.2.2.1, List.mem_cons_of_mem _ h.2.2.2⟩]
    · rw [if_neg h]
      by_cases k : y * W + x0 ≤ i ∧ i < y * W + x0 + (x1 - x0) ∧ i < L.length
      · obtain ⟨k1, k2, k3⟩ := r.1 ⟨k.1, k.2.1⟩
        rw [if_pos k, if_pos ⟨k.2.2, k2, k3, by rw [k1]; exact List.mem_cons_self⟩, List.getElem?_replicate, if_pos (by omega)]
      · rw [if_neg k, if_neg]
        rintro ⟨l1, l2, l3, l4⟩
        rcases List.mem_cons.1 l4 with l | l
        · have := r.2 ⟨l, l2, l3⟩; omega
        · exact h ⟨l1, l2, l3, l⟩
theorem mem_range'' (y y0 y1 : Nat) (h : y0 ≤ y1) : y ∈ List.range' y0 (y1 - y0) ↔ y0 ≤ y ∧ y < y1 := by
  rw [List.mem_range'_1]; omega
/-- What is filled row by row is filled point by point. -/
theorem fill_eq {W H x0 x1 y0 y1 : Nat} {q : Int} {L : List Int} {p : Nat → Nat → Bool} (hl : L.length = W * H) (h1 : 1 ≤ W) (hx : x0 ≤ x1) (hw : x1 ≤ W) (hy : y0 ≤ y1)
    (hp : ∀ i j : Nat, i < W → j < H → p i j = decide (x0 ≤ i ∧ i < x1 ∧ y0 ≤ j ∧ j < y1)) :
    fillR W x0 x1 q L (List.range' y0 (y1 - y0)) = upto (fun i => if p (i % W) (i / W) = true then q else L.getD i 0) L.length := by
  apply List.ext_getElem?
  intro i
  rw [fillR_get W x0 x1 q hx hw h1, upto_get]
  by_cases hi : i < L.length
  · obtain ⟨d1, d2, _⟩ := div_of (k := i) (H := H) h1 (by omega)
    rw [if_pos hi, hp _ _ d1 d2]
    by_cases h : x0 ≤ i % W ∧ i % W < x1 ∧ y0 ≤ i / W ∧ i / W < y1
    · rw [if_pos ⟨hi, h.1, h.2.1, (mem_range'' _ _ _ hy).2 h.2.2⟩, if_pos (by simpa using h)]
    · rw [if_neg (fun k => h ⟨k.2.1, k.2.2.1, (mem_range'' _ _ _ hy).1 k.2.2.2⟩), if_neg (by simpa using h), List.getElem?_eq_getElem hi, List.getD, List.getElem?_eq_getElem hi]; rfl
  · rw [if_neg (fun k => hi k.1), if_neg hi, List.getElem?_eq_none (by omega)]

theorem cnt_rows {W x0 x1 y0 y1 H : Nat} {p : Nat → Nat → Bool} (h1 : 1 ≤ W) (hx : x0 ≤ x1) (hw : x1 ≤ W) (hy : y0 ≤ y1)
    (hp : ∀ i j : Nat, i < W → j < H → p i j = decide (x0 ≤ i ∧ i < x1 ∧ y0 ≤ j ∧ j < y1)) :
    ∀ j : Nat, j ≤ H → cntI (fun i => p (i % W) (i / W)) (j * W) = (min j y1 - y0) * (x1 - x0) := by
  intro j
  induction j with
  | zero => intro _; simp [cntI]
  | succ j ih =>
    intro hj
    have row : ∀ i, i ≤ W → cntI (fun i => p (i % W) (i / W)) (j * W + i) = (min j y1 - y0) * (x1 - x0) + if y0 ≤ j ∧ j < y1 then min i x1 - x0 else 0 := by
      intro i
      induction i with
      | zero => intro _; rw [Nat.add_zero, ih (by omega)]; split <;> simp
      | succ i ih2 =>
        intro hi
        rw [← Nat.add_assoc, cntI_succ, ih2 (by omega)]
        have e1 : (j * W + i) % W = i := by rw [Nat.mul_comm, Nat.mul_add_mod]; exact Nat.mod_eq_of_lt (by omega)
        have e2 : (j * W + i) / W = j := by rw [Nat.mul_comm, Nat.mul_add_div (by omega), Nat.div_eq_of_lt (by omega), Nat.add_zero]
        rw [e1, e2, hp i j (by omega) (by omega)]
        by_cases h : y0 ≤ j ∧ j < y1
        · rw [if_pos h, if_pos h]
          by_cases k : x0 ≤ i ∧ i < x1
          · rw [if_pos (by simp; omega)]; omega
          · rw [if_neg (by simp; omega)]; omega
        · rw [if_neg h, if_neg h, if_neg (by simp; omega)]
    rw [Nat.add_mul, Nat.one_mul, row W (Nat.le_refl _)]
    by_cases h : y0 ≤ j ∧ j < y1
    · rw [if_pos h, show min (j + 1) y1 - y0 = (min j y1 - y0) + 1 by omega, Nat.add_mul]; omega
    · rw [if_neg h, show min (j + 1) y1 - y0 = min j y1 - y0 by omega]; omega
theorem cnt_area {W H x0 x1 y0 y1 : Nat} {p : Nat → Nat → Bool} (h1 : 1 ≤ W) (hx : x0 ≤ x1) (hw : x1 ≤ W) (hy : y0 ≤ y1) (hh : y1 ≤ H)
    (hp : ∀ i j : Nat, i < W → j < H → p i j = decide (x0 ≤ i ∧ i < x1 ∧ y0 ≤ j ∧ j < y1)) :
    ((cntI (fun i => p (i % W) (i / W)) (W * H) : Nat) : Int) = areaI x0 y0 x1 y1 := by
  rw [Nat.mul_comm, cnt_rows h1 hx hw hy hp H (Nat.le_refl _), show min H y1 = y1 by omega]
  unfold areaI
  rw [Int.natCast_mul, Int.mul_comm, Int.natCast_sub hx, Int.natCast_sub hy]

/-- Whether all of a rectangle's points are solid, point by point. -/
theorem rowS_iff (L : List Int) (p k : Nat) : rowS L p k = true ↔ ∀ i, p ≤ i → i < p + k → ∀ c, L[i]? = some c → pA c = 255 := by
  unfold rowS
  rw [List.all_eq_true]
  constructor
  · intro h i h1 h2 c hc
    have : c ∈ (L.drop p).take k := by
      apply List.mem_of_getElem? (i := i - p)
      rw [List.getElem?_take, if_pos (by omega), List.getElem?_drop, show p + (i - p) = i by omega, hc]
    simpa using h c this
  · intro h c hc
    obtain ⟨i, hi⟩ := List.getElem?_of_mem hc
    rw [List.getElem?_take] at hi
    split at hi
    · rename_i hk
      rw [List.getElem?_drop] at hi
      simpa using h (p + i) (by omega) (by omega) c hi
    · cases hi
theorem allS_iff {W H x0 x1 y0 y1 : Nat} {L : List Int} (_ : L.length = W * H) (h1 : 1 ≤ W) (hx : x0 ≤ x1) (hw : x1 ≤ W) (hy : y0 ≤ y1) :
    allS W x0 x1 L (List.range' y0 (y1 - y0)) = true ↔ ∀ i c, L[i]? = some c → (x0 ≤ i % W ∧ i % W < x1 ∧ y0 ≤ i / W ∧ i / W < y1) → pA c = 255 := by
  unfold allS
  rw [List.all_eq_true]
  constructor
  · intro h i c hc ⟨k1, k2, k3, k4⟩
    have r := (row_iff (y := i / W) (i := i) hx hw h1).2 ⟨rfl, k1, k2⟩
    exact (rowS_iff _ _ _).1 (h (i / W) ((mem_range'' _ _ _ hy).2 ⟨k3, k4⟩)) i r.1 r.2 c hc
  · intro h y hy'
    rw [mem_range'' _ _ _ hy] at hy'
    rw [rowS_iff]
    intro i k1 k2 c hc
    obtain ⟨r1, r2, r3⟩ := (row_iff (y := y) (i := i) hx hw h1).1 ⟨k1, k2⟩
    exact h i c hc ⟨r2, r3, by omega, by omega⟩

end Go.Proofs.Ytafceieenhogpaa
