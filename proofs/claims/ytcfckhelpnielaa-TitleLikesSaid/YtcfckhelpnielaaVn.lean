/-
  What is proved: what small of package title hands back: all signs written out, the letters A to Z as a to z.
-/
import Derived.Test.YtcfckhelpnielaaVj
namespace Go.Proofs.Ytcfckhelpnielaa
open Go.RowKit Go.Sort Go.Shelf
attribute [local go_sem] Oper.semAt_some

def lowN (X : List Sg) : List Int := X.map fun x => lowZ x.r
theorem lowZ_bd {r : Int} (h : Vr r) : Vr (lowZ r) := by
  unfold lowZ
  split
  · rename_i hb
    have := of_decide_eq_true hb
    unfold Vr; omega
  · exact h

set_option maxRecDepth 100000 in
set_option maxHeartbeats 4000000 in
theorem tsmall1 (s : ByteArray) (hs : s.size ≤ 1000000) (w : World) : Calls Try.prog 39 #[.string s] w (Bt w (.string (bs (encs (lowN (sgs s.data.toList)))))) := by
  refine (callsIn_wide (n := 5)).1 ?_
  refine callsIn_of_wp_marks Try.func39 rfl trivial ?_ rfl
  simp only [Try.ntmps39, List.size_toArray, List.length_cons, List.length_nil, Nat.reduceAdd, Nat.reduceSub, Array.replicate_succ, Array.replicate_zero, List.push_toArray, List.append_toArray, List.nil_append, List.cons_append]
  have hn := sgs_len s.data.toList
  rw [show s.data.toList.length = s.size from Array.length_toList] at hn
  have a2 := Bd.new w
  have G2 : Bl w (w.alloc (.cells #[.pointer none, .slice none 0 0] 49)) := ((Bl.refl w).alloc _)
  have hz : (w.alloc (.cells #[.pointer none, .slice none 0 0] 49)).heap.size = w.heap.size + 1 := by simp
  gi_wp2_with fail
  refine ⟨trivial, ?_⟩
  refine (callsIn_wide.2 (signs1 s _)).mono ?_
  rintro e w1 ⟨rfl, rfl⟩
  obtain ⟨U0, hU0⟩ : ∃ U0, U0 = (w.alloc (.cells #[.pointer none, .slice none 0 0] 49)) := ⟨_, rfl⟩
  rw [← hU0] at a2 G2 hz ⊢
  clear hU0
  replace a2 := a2.alloc (.cells #[.string s] 9)
  have a4 := At.newAt (w := U0) (n := w.heap.size + 1) hz #[.string s] 9
  replace G2 := G2.alloc (.cells #[.string s] 9)
  rw [hz]
  have hz2 : (U0.alloc (.cells #[.string s] 9)).heap.size = w.heap.size + 2 := by simp [hz]
  obtain ⟨U, hU⟩ : ∃ U, U = U0.alloc (.cells #[.string s] 9) := ⟨_, rfl⟩
  rw [← hU] at a2 a4 G2 hz2 ⊢
  clear hU hz
  gi_wp2
  refine wpIn_rangeFunc_ownG rfl (by omega) (gf := 30) (lb := #[.pointer (some ⟨w.heap.size + 1, 0, none⟩)]) rfl trivial (enters_of Try.func30 (by kernel_rfl) rfl)
    (signsStops (5 - 1) (by omega) _ _ s (by omega) _ a4) (fun h k => walksK_t h k) walksK_b (Below.refl _ _) (fun _ => rfl)
    (fun pre V => Bd w.heap.size w.heap.size (encs (lowN (gF s.data.toList pre))) V ∧ Below w.heap.size w V)
    (fun _ _ _ => False)
    ((ownBd _ _ _ _).and (ownFrom_below (Nat.le_refl _) (by omega)))
    (fun _ _ _ _ _ hs _ _ => hs)
    ⟨a2, G2⟩
    (fun x => { tmps := #[.string s, undef, .string ⟨#[]⟩, .pointer (some ⟨w.heap.size, 0, none⟩), undef, .int .i32 (rAt s.data.toList x), .string s, .func (.func 30) #[] #[.pointer (some ⟨w.heap.size + 1, 0, none⟩)], .int .i64 (pos s.data.toList x.1 : Nat), .int .i32 (rAt s.data.toList x),
      undef, undef, undef, undef, undef, undef, undef], defers := [] }) ?assign ?body ?done ?stop
  case assign =>
    intro l x W' K' hK'
    dsimp only [sgV]
    gi_wp2
    exact hK'
  case body =>
    rintro l pre x W' ⟨i2, hb⟩ hlen
    have hgl := gF_len s.data.toList pre
    have hsn := gF_snoc s.data.toList pre x
    have hxok := sgs_ok s.data.toList ((sgs s.data.toList)[x.1]'x.2) (List.getElem_mem _)
    have cb := fun w => between1 (rAt s.data.toList x) 65 90 w
    have hA : encs (lowN (gF s.data.toList (pre ++ [x]))) = encs (lowN (gF s.data.toList pre)) ++ Lib.encodeRune (lowZ (rAt s.data.toList x)) := by
      rw [hsn]; unfold lowN; rw [List.map_append, encs_app]; simp [encs, rAt]
    have hL : (encs (lowN (gF s.data.toList pre))).length ≤ 100000000 := by
      have := encs_len (lowN (gF s.data.toList pre))
      unfold lowN at this ⊢
      rw [List.length_map, hgl] at this
      omega
    have hr : 0 ≤ rAt s.data.toList x ∧ rAt s.data.toList x ≤ 1114111 := hxok.vr.int
    have hlow : lowZ (rAt s.data.toList x) = if btwB (rAt s.data.toList x) 65 90 = true then rAt s.data.toList x + 32 else rAt s.data.toList x := rfl
    have hbt : btwB (rAt s.data.toList x) 65 90 = true → rAt s.data.toList x ≤ 90 := fun h => (of_decide_eq_true h).2
    rw [hlow] at hA
    generalize encs (lowN (gF s.data.toList pre)) = L at *
    generalize rAt s.data.toList x = r at *
    generalize btwB r 65 90 = od at *
    obtain ⟨hr0, hr1⟩ := hr
    have wr := fun (r' : Int) (h0 : 0 ≤ r') (h1 : r' ≤ 1114111) => writeR w.heap.size w.heap.size L r' h0 h1 _ i2 hL hb.size
    have fin : ∀ (r' : Int) (V : World), r' = (if od = true then r + 32 else r) → Bd w.heap.size w.heap.size (L ++ Lib.encodeRune r') V → Below w.heap.size W' V → Lib.OthersKept 5 (some w.heap.size) W' V →
        KeepsFrom U.heap.size W' V ∧ KeepsWalks W' V ∧ Bd w.heap.size w.heap.size (encs (lowN (gF s.data.toList (pre ++ [x])))) V ∧ Below w.heap.size w V := by
      rintro r' V rfl hbd hbl hok
      obtain ⟨cs, hcs⟩ := i2.at
      have hk := others_keep hok hcs hbl.size
      exact ⟨hk.from _, hk.walks, by rw [hA]; exact hbd, hb.trans hbl⟩
    replace fin := Lib.hid fin
    clear hxok hlow hA hsn hgl
    cases od
    · clear hbt
      gi_wp2_with (first | (refine ⟨trivial, ?_⟩; gi_at_call 42; refine (CallsIn.inRound l (callsIn_wide.2 (cb _))).mono ?_; rintro e w2 ⟨rfl, rfl⟩) | (refine ⟨trivial, ?_⟩; gi_at_call 35; refine (CallsIn.inRound l (callsIn_wide.2 (wr _ hr0 hr1))).mono ?_; rintro e w2 ⟨⟨n4, rfl⟩, b4, g4, k4⟩))
      exact fin.out _ _ rfl b4 g4 k4
    · have h90 := hbt rfl
      clear hbt
      gi_wp2_with (first | (refine ⟨trivial, ?_⟩; gi_at_call 42; refine (CallsIn.inRound l (callsIn_wide.2 (cb _))).mono ?_; rintro e w2 ⟨rfl, rfl⟩) | (refine ⟨trivial, ?_⟩; gi_at_call 35; refine (CallsIn.inRound l (callsIn_wide.2 (wr (r + 32) (by omega) (by omega)))).mono ?_; rintro e w2 ⟨⟨n4, rfl⟩, b4, g4, k4⟩))
      exact fin.out _ _ rfl b4 g4 k4
  case done =>
    rintro D ys W' hD hys ⟨i2, hb⟩ hK'
    rw [gF_all hys] at i2
    clear hys
    obtain ⟨cs, hcs⟩ := i2.at
    gi_wp2_with (refine ⟨trivial, ?_⟩; gi_at_call 36; refine (callsIn_wide.2 (stringR w.heap.size w.heap.size _ W' i2 hb.size)).mono ?_; rintro e w2 ⟨rfl, g4, k4⟩)
    have hK2 := (others_keep k4 hcs g4.size).same D _ hK' rfl
    refine ⟨by simp, .inl ⟨_, _, rfl, run_takeDeferred hK2, ?_⟩⟩
    refine ⟨_, results_tmp rfl _ _ _, rfl, ?_⟩
    exact below_fin (hb.trans g4) hD (by omega) hK2
  case stop =>
    rintro D c pre W' _ _ h _
    exact h.elim
end Go.Proofs.Ytcfckhelpnielaa
