/-
  What is proved: what the document's Good hands back: an image made of any colors.
-/
import Derived.Test.YtackojmckloacaaIb2
import Derived.Deep.RegionHeld3
namespace Go.Proofs.Ytackojmckloacaa
open Go.RowKit Go.Sort Go.Deep

def side (n : Int) : Nat := 1 + (around n 16).toNat
theorem side_bd (n : Int) : 1 ≤ side n ∧ side n ≤ 16 ∧ ((side n : Nat) : Int) = 1 + around n 16 := by
  have := around_bd n 16 (by omega)
  unfold side; omega
/-- The colors of an image that is made of these. -/
def goodL (n : Nat) (a : List Int) : List Int := (a.map gd).take n ++ List.replicate (n - a.length) 0
theorem goodL_len (n : Nat) (a : List Int) : (goodL n a).length = n := by simp [goodL]; omega
theorem goodL_may (n : Nat) (a : List Int) : MayL (goodL n a) := by
  intro c hc
  unfold goodL at hc
  rw [List.mem_append] at hc
  rcases hc with h | h
  · obtain ⟨x, _, rfl⟩ := List.mem_map.1 (List.mem_of_mem_take h)
    exact ⟨gd_c32 x, may_gd x⟩
  · obtain rfl := List.eq_of_mem_replicate h
    exact ⟨by unfold C32; omega, by decide⟩
theorem goodL_end {n k : Nat} {a : List Int} (h : k = n ∨ k = a.length) (hk : k ≤ n ∧ k ≤ a.length) : (a.map gd).take k ++ List.replicate (n - k) 0 = goodL n a := by
  unfold goodL
  rcases h with rfl | rfl
  · rw [show k - k = k - a.length by omega]
  · rw [List.take_of_length_le (by simp), List.take_of_length_le (l := a.map gd) (i := n) (by simp; omega)]
theorem At.put3 {w : World} {b : Nat} {z0 z1 z2 : Value} {t : TypeId} (h : At w b #[z0, z1, z2] t) (u0 u1 u2 : Value) :
    At (((w.setCell ⟨b, 0, none⟩ u0).setCell ⟨b, 1, none⟩ u1).setCell ⟨b, 2, none⟩ u2) b #[u0, u1, u2] t := by
  have h1 := Go.Joins.block_setCell (i := 0) h u0
  have h2 := Go.Joins.block_setCell (i := 1) h1 u1
  have h3 := Go.Joins.block_setCell (i := 2) h2 u2
  unfold At
  simpa using h3
theorem At.far3 {w : World} {b k : Nat} {cs : Array Value} {t : TypeId} (h : At w b cs t) (hp : b ≠ k) (u0 u1 u2 : Value) : At (((w.setCell ⟨k, 0, none⟩ u0).setCell ⟨k, 1, none⟩ u1).setCell ⟨k, 2, none⟩ u2) b cs t :=
  ((h.far (p := ⟨k, 0, none⟩) hp u0).far (p := ⟨k, 1, none⟩) hp u1).far (p := ⟨k, 2, none⟩) hp u2
theorem Bl.put3 {a w : World} (h : Bl a w) {k : Nat} (hk : a.heap.size ≤ k) (u0 u1 u2 : Value) : Bl a (((w.setCell ⟨k, 0, none⟩ u0).setCell ⟨k, 1, none⟩ u1).setCell ⟨k, 2, none⟩ u2) :=
  ((h.setCell (p := ⟨k, 0, none⟩) hk u0).setCell (p := ⟨k, 1, none⟩) hk u1).setCell (p := ⟨k, 2, none⟩) hk u2
theorem cells3 {w : World} {b : Nat} {v0 v1 v2 : Value} {t : TypeId} (h : At w b #[v0, v1, v2] t) : w.cell? ⟨b, 0, none⟩ = some v0 ∧ w.cell? ⟨b, 1, none⟩ = some v1 ∧ w.cell? ⟨b, 2, none⟩ = some v2 := ⟨h.cell 0, h.cell 1, h.cell 2⟩

set_option maxRecDepth 100000 in
set_option maxHeartbeats 2000000 in
theorem mgood1 (x y : Int) (A : Option Addr) (ca : Nat) (a : List Int) (w : World) (hA : Ns .u32 w A a) (h32 : ∀ c ∈ a, C32 c) (_hca : a.length ≤ ca) (_hcm : ca ≤ maxLen) (hx : I64 x) (hy : I64 y) :
    Calls Try.prog 4 #[.int .i64 x, .int .i64 y, .slice A a.length ca] w
      (fun e w' => ∃ b, e = .returned (.agg #[.int .i64 (side x : Nat), .int .i64 (side y : Nat), .slice (some ⟨b, 0, none⟩) (side x * side y) (side x * side y)]) ∧ At w' b (cC (goodL (side x * side y) a)) 30 ∧ w.heap.size ≤ b ∧ Bl w w') := by
  obtain ⟨s1, s2, s3⟩ := side_bd x
  obtain ⟨t1, t2, t3⟩ := side_bd y
  have ax := around_bd x 16 (by omega)
  have ay := around_bd y 16 (by omega)
  obtain ⟨ax1, ax2⟩ := ax
  obtain ⟨ay1, ay2⟩ := ay
  have cx := fun w => around1 x 16 w hx (by omega)
  have cy := fun w => around1 y 16 w hy (by omega)
  have cn := fun w => refNew1 (side x) (side y) w (by omega) (by omega)
  rw [s3, t3] at cn ⊢
  have hle := area_le (W := side x) (H := side y) (by omega) (by omega)
  generalize side x * side y = n at *
  generalize side x = sx at *
  generalize side y = sy at *
  generalize around x 16 = rx at *
  generalize around y 16 = ry at *
  have hs3 := Lib.hid s3
  have ht3 := Lib.hid t3
  obtain ⟨la, hla⟩ : ∃ la, la = a.length := ⟨_, rfl⟩
  rw [← hla]
  have hlaa := Lib.hid hla
  clear hla s3 t3
  go_enter Try.func4, Try.ntmps4
  go_wp2_with fail
  refine (cx _).mono ?_
  rintro e w1 ⟨rfl, rfl⟩
  go_wp2_with fail
  refine (cy _).mono ?_
  rintro e w1 ⟨rfl, rfl⟩
  go_wp2_with fail
  refine (cn _).mono ?_
  rintro e w2 ⟨b, rfl, C2, hb2, g2⟩
  have R2 := (At.new w #[.int .i64 0, .int .i64 0, .slice none 0 0] 25).gr g2
  have G2 := (((Gr.refl w).alloc _).trans g2).bl
  simp at hb2
  have hz : (a.map gd).take 0 ++ List.replicate (n - 0) 0 = List.replicate n 0 := by simp
  rw [← hz] at C2
  clear hz cx cy cn g2
  go_wp2_with fail
  have M2 := At.new w2 #[.int .i64 (1 + rx), .int .i64 (1 + ry), .slice (some ⟨b, 0, none⟩) n n] 25
  have hs2 := G2.size
  have hl2 := C2.lt
  have hr2 := R2.lt
  replace R2 := R2.alloc (.cells #[.int .i64 (1 + rx), .int .i64 (1 + ry), .slice (some ⟨b, 0, none⟩) n n] 25)
  replace C2 := C2.alloc (.cells #[.int .i64 (1 + rx), .int .i64 (1 + ry), .slice (some ⟨b, 0, none⟩) n n] 25)
  replace G2 := G2.alloc (.cells #[.int .i64 (1 + rx), .int .i64 (1 + ry), .slice (some ⟨b, 0, none⟩) n n] 25)
  obtain ⟨bm, hbm⟩ : ∃ bm, bm = w2.heap.size := ⟨_, rfl⟩
  rw [← hbm] at M2 ⊢
  have hbm' : b < bm ∧ w.heap.size < bm := by omega
  obtain ⟨hbm1, hbm2⟩ := hbm'
  clear hbm hl2 hr2 hs2
  go_loopw [8] (fun i wr => ∃ k : Nat, k ≤ n ∧ k ≤ la ∧ i = .int .i64 k ∧ At wr b (cC ((a.map gd).take k ++ List.replicate (n - k) 0)) 30 ∧ At wr w.heap.size #[.int .i64 0, .int .i64 0, .slice none 0 0] 25 ∧
      At wr bm #[.int .i64 (1 + rx), .int .i64 (1 + ry), .slice (some ⟨b, 0, none⟩) n n] 25 ∧ Bl w wr) (fun i _ => n - (intOf i).toNat)
  case atStart => exact ⟨0, Nat.zero_le _, Nat.zero_le _, rfl, C2, R2, M2, G2⟩
  case round =>
    obtain ⟨k, hk, hka, rfl, Ck, Rk, Mk, Gk⟩ := hrel
    obtain ⟨m0, m1, m2⟩ := cells3 Mk
    by_cases hlt : k < n ∧ k < la
    · obtain ⟨hl1, hl2⟩ := hlt
      rcases (hA.bl Gk) with h | ⟨ba, off, rfl, hr⟩
      · subst h; exfalso; have := hlaa.out; simp at this; omega
      · obtain ⟨q, hq⟩ : ∃ q, a[k]? = some q := ⟨a[k]'(by rw [← hlaa.out]; exact hl2), List.getElem?_eq_getElem _⟩
        have hq32 := h32 q (get_of hq).1
        have hgd : (a.map gd)[k]? = some (gd q) := by rw [List.getElem?_map, hq]; rfl
        have hset := take_set_z hl1 hgd
        have cg := fun w => cgood1 q w hq32
        have c1 := hr k q hq
        have hbl := World.block_lt_of_cell? wr _ c1
        have c1' : ∀ w', Gr wr w' → w'.cell? ⟨ba, off + k, none⟩ = some (.int .u32 q) := fun w' g => (g.cell hbl).trans c1
        obtain ⟨old, hold⟩ : ∃ old, (cC ((a.map gd).take k ++ List.replicate (n - k) 0))[k]? = some (.int .u32 old) := by
          rw [cC_get]
          obtain ⟨o, ho⟩ := list_at (l := (a.map gd).take k ++ List.replicate (n - k) 0) (k := k) (by have := hlaa.out; simp; omega)
          exact ⟨o, by rw [ho]; rfl⟩
        have hset' := Lib.hid hset
        have hold' := Lib.hid hold
        clear hq hgd hset hold hr hbl
        generalize gd q = gq at *
        go_wp2
        go_region_with (go_at_call 18; refine (cg _).mono ?_; rintro e w3 ⟨rfl, g3⟩; have u1 := (Mk.drew.gr g3).cell 2; have u2 := ((Ck.drew.gr g3).cell k).trans hold'.out; have u3 := (Ck.drew.gr g3).free k; simp at u1)
        all_goals
          clear u1 u2 u3 c1 c1' hold' m0 m1 m2 cg
          have C3 := ((Ck.drew.gr g3).put k (.int .u32 gq))
          rw [cC_set, hset'.out] at C3
          have R3 := (Rk.drew.gr g3).far (p := ⟨b, k, none⟩) (by simp; omega) (.int .u32 gq)
          have M3 := (Mk.drew.gr g3).far (p := ⟨b, k, none⟩) (by simp; omega) (.int .u32 gq)
          have G3 := (Gk.drew.gr g3).setCell (p := ⟨b, k, none⟩) (by simp; omega) (.int .u32 gq)
          go_wp2
          go_roundw
          case rel => exact ⟨k + 1, by omega, by omega, by simp, C3, R3, M3, G3⟩
          case measure => simp [intOf]; omega
    · obtain ⟨r0, r1, r2⟩ := cells3 Rk
      obtain ⟨f0, f1, f2, _⟩ := free4 Rk
      have hend : k = n ∨ k = a.length := by have := hlaa.out; omega
      rw [goodL_end hend ⟨hk, by rw [← hlaa.out]; exact hka⟩] at Ck
      have hor : k = la ∨ (k < la ∧ n ≤ k) := by have := hlaa.out; omega
      clear hend hlt
      rcases hor with h | ⟨h, h'⟩
      all_goals
        go_wp2
        have P := Rk.put3 (.int .i64 (1 + rx)) (.int .i64 (1 + ry)) (.slice (some ⟨b, 0, none⟩) n n)
        have C := Ck.far3 (k := w.heap.size) (by omega) (.int .i64 (1 + rx)) (.int .i64 (1 + ry)) (.slice (some ⟨b, 0, none⟩) n n)
        have G := Gk.put3 (Nat.le_refl _) (.int .i64 (1 + rx)) (.int .i64 (1 + ry)) (.slice (some ⟨b, 0, none⟩) n n)
        generalize ((wr.setCell ⟨w.heap.size, 0, none⟩ (.int .i64 (1 + rx))).setCell ⟨w.heap.size, 1, none⟩ (.int .i64 (1 + ry))).setCell ⟨w.heap.size, 2, none⟩ (.slice (some ⟨b, 0, none⟩) n n) = V at P C G ⊢
        obtain ⟨d0, d1, d2⟩ := cells3 P
        exact bodyPost_ret (v := .agg #[.int .i64 (1 + rx), .int .i64 (1 + ry), .slice (some ⟨b, 0, none⟩) n n]) (by simp [results, Try.results4, go_sem, d0, d1, d2]) rfl ⟨b, rfl, C, by omega, G⟩

end Go.Proofs.Ytackojmckloacaa
