/-
  What is proved: small words for memory; rows of signs as the document's package lays them; what 'append' does to such a row. No conditions but a bound on the length. what WriteRune of a strings.Builder does (its copy check as this program has it). No conditions but a bound on the length. small functions of package title, and what a range over its Signs comes to. No conditions but bounds.
-/
import Derived.Test.YthkbenhlhldglaaDoorOba
import Derived.Test.YthkbenhlhldglaaDoorVa
import Derived.Test.YthkbenhlhldglaaDoorShc
import Derived.Test.YthkbenhlhldglaaDoorMa
import Derived.Deep.AppendLies
import Derived.Laws.OwnMore
import Derived.OwnWalk
import Derived.Lib.Hide
import Derived.LoopTactic
import Derived.Shelf.Strings.BuilderRune
import Derived.WalkKit
import Derived.RangeFuncNested
import Derived.RangeFuncBound
import Derived.RangeFuncCalls
import Derived.RangeFuncLeaves
import Derived.Shelf.Abstract
import Derived.Shelf.RegionOpen
import Derived.OwnWalkIn
import Derived.TacticsInMore
import Derived.LoopNIn
import Derived.LoopIn
import Derived.Lib.OthersKept
import Derived.Lib.QuietBelow
namespace Go.Proofs.YthkbenhlhldglaaDoor
open Go.RowKit Go.Sort

/-- What append leaves: the row, where it lies, and what else has turned. -/
def Apd (w w' : World) (A A' : Option Addr) : Prop := w.grownBy w' (A.map (·.block)) ∧ ((A.map (·.block)) = A'.map (·.block) ∨ A'.map (·.block) = some w.heap.size)
theorem Apd.bl {w0 w w' : World} {A A' : Option Addr} {B : Nat} (g : Apd w w' A A') (h : Bl w0 w) (hA : A = none ∨ ∃ k, A = some ⟨k, 0, none⟩ ∧ B ≤ k ∧ k < w.heap.size) (hB : w0.heap.size ≤ B) : Bl w0 w' :=
  h.grown g.1 (fun k hk => by
    rcases hA with rfl | ⟨k', rfl, h1, _⟩
    · cases hk
    · simp at hk; omega)

/-- A sign as it lies: its place, how many bytes, its number, whether it is broken. -/
structure Pl where
  p : Nat
  n : Nat
  r : Int
  bad : Bool
def c4s (x : Pl) : List Value := [.int .i64 x.p, .int .i64 x.n, .int .i64 x.r, .bool x.bad]
def cS : List Pl → List Value
  | [] => []
  | r :: l => c4s r ++ cS l
theorem cS_len : ∀ L : List Pl, (cS L).length = L.length * 4
  | [] => rfl
  | r :: l => by unfold cS; rw [List.length_append, cS_len l]; simp [c4s]; omega
theorem cS_app : ∀ L M : List Pl, cS (L ++ M) = cS L ++ cS M
  | [], M => rfl
  | r :: l, M => by show c4s r ++ cS (l ++ M) = (c4s r ++ cS l) ++ cS M; rw [cS_app l M, List.append_assoc]
theorem cS_get : ∀ (L : List Pl) (k : Nat) (r : Pl) (j : Nat), L[k]? = some r → j < 4 → (cS L)[k * 4 + j]? = (c4s r)[j]?
  | [], k, r, j, h, _ => by simp at h
  | r' :: l, 0, r, j, h, hj => by
    simp at h; subst h
    unfold cS
    rw [List.getElem?_append_left (by simp [c4s]; omega)]; simp
  | r' :: l, k + 1, r, j, h, hj => by
    unfold cS
    rw [List.getElem?_append_right (by simp [c4s]; omega)]
    rw [show (k + 1) * 4 + j - (c4s r').length = k * 4 + j from by simp [c4s]; omega]
    exact cS_get l k r j (by simpa using h) hj
theorem cS_one : ∀ (L : List Pl), ∀ u ∈ cS L, u.oneCell' = true
  | [], u, h => by simp [cS] at h
  | r :: l, u, h => by
    unfold cS at h
    rw [List.mem_append] at h
    rcases h with h | h
    · simp [c4s] at h; rcases h with h | h | h | h <;> subst h <;> rfl
    · exact cS_one l u h
/-- From cell off of block b on lie these signs. -/
def RowS (w : World) (b off : Nat) (L : List Pl) : Prop := ∀ k r, L[k]? = some r → w.cell? ⟨b, off + k * 4, none⟩ = some (.int .i64 r.p) ∧ w.cell? ⟨b, off + k * 4 + 1, none⟩ = some (.int .i64 r.n) ∧
  w.cell? ⟨b, off + k * 4 + 2, none⟩ = some (.int .i64 r.r) ∧ w.cell? ⟨b, off + k * 4 + 3, none⟩ = some (.bool r.bad)
def Ss (w : World) (A : Option Addr) (L : List Pl) : Prop := L = [] ∨ ∃ b off, A = some ⟨b, off, none⟩ ∧ RowS w b off L
theorem RowS.bl {w w' : World} {b off : Nat} {L : List Pl} (h : RowS w b off L) (g : Bl w w') : RowS w' b off L := fun k r hk => by
  obtain ⟨h1, h2, h3, h4⟩ := h k r hk
  exact ⟨g.keep h1, g.keep h2, g.keep h3, g.keep h4⟩
theorem Ss.bl {w w' : World} {A : Option Addr} {L : List Pl} (h : Ss w A L) (g : Bl w w') : Ss w' A L := by
  rcases h with h | ⟨b, off, h1, h2⟩
  · exact .inl h
  · exact .inr ⟨b, off, h1, h2.bl g⟩
theorem Ss.opened {w : World} {A : Option Addr} {L : List Pl} (h : Ss w A L) (hn : 0 < L.length) : ∃ b off, A = some ⟨b, off, none⟩ ∧ RowS w b off L := by
  rcases h with h | h
  · subst h; simp at hn
  · exact h
def OwS (w : World) (B : Nat) (A : Option Addr) (c : Nat) (L : List Pl) : Prop := w.ownsRow B 130 4 (.slice A L.length c) L.length (cS L)
theorem OwS.nil (w : World) (B : Nat) : OwS w B none 0 [] := World.ownsRow_nil _ _ _ _
theorem OwS.addr {w : World} {B : Nat} {A : Option Addr} {c : Nat} {L : List Pl} (h : OwS w B A c L) : (A = none ∧ c = 0 ∧ L = []) ∨ ∃ g, A = some ⟨g, 0, none⟩ ∧ B ≤ g ∧ g < w.heap.size := by
  rcases h.2 with ⟨h1, h2⟩ | ⟨g, cap, cur, h1, h2, h3, _⟩
  · left
    injection h1 with a b c'
    exact ⟨a, c', List.eq_nil_of_length_eq_zero h2⟩
  · right
    injection h1 with a b c'
    refine ⟨g, a, h2, ?_⟩
    rcases Nat.lt_or_ge g w.heap.size with hl | hl
    · exact hl
    · rw [Array.getElem?_eq_none hl] at h3; cases h3
theorem OwS.cap {w : World} {B : Nat} {A : Option Addr} {c : Nat} {L : List Pl} (h : OwS w B A c L) : L.length ≤ c := own_cap h rfl
theorem OwS.row {w : World} {B : Nat} {g c : Nat} {L : List Pl} (h : OwS w B (some ⟨g, 0, none⟩) c L) : RowS w g 0 L := fun k r hk => by
  have hl : k < L.length := by
    rcases Nat.lt_or_ge k L.length with h' | h'
    · exact h'
    · rw [List.getElem?_eq_none h'] at hk; cases hk
  have q := fun j (hj : j < 4) => (World.ownsRow.cellAt h (k * 4 + j) (by omega)).trans (cS_get L k r j hk hj)
  refine ⟨?_, ?_, ?_, ?_⟩
  · simp [c4s]
  · simp [c4s]
  · simp [c4s]
  · simp [c4s]
theorem OwS.ss {w : World} {B : Nat} {A : Option Addr} {c : Nat} {L : List Pl} (h : OwS w B A c L) : Ss w A L := by
  rcases h.addr with ⟨_, _, h'⟩ | ⟨g, rfl, _⟩
  · exact .inl h'
  · exact .inr ⟨g, 0, rfl, h.row⟩
theorem OwS.lies {w : World} {B : Nat} {A : Option Addr} {c : Nat} {L : List Pl} (h : OwS w B A c L) : A = none ∨ ∃ k, A = some ⟨k, 0, none⟩ ∧ B ≤ k ∧ k < w.heap.size := by
  rcases h.addr with ⟨h1, _⟩ | h1
  · exact .inl h1
  · exact .inr h1
theorem OwS.grown {w w' : World} {B : Nat} {A : Option Addr} {c : Nat} {L : List Pl} {row : Option Nat} (h : OwS w B A c L) (g : w.grownBy w' row) (hne : A = none ∨ A.map (·.block) ≠ row) : OwS w' B A c L :=
  World.ownsRow.kept h g (by rw [slice_block]; rcases hne with rfl | hne; exact .inl rfl; exact .inr hne)
theorem OwS.bl {w w' : World} {B : Nat} {A : Option Addr} {c : Nat} {L : List Pl} (h : OwS w B A c L) (g : Bl w w') : OwS w' B A c L :=
  h.grown g.by (by cases A with | none => exact .inl rfl | some a => exact .inr (by simp))
theorem infoS : (Tryd.prog.info? 130).map (fun i => (i.zero, i.size, i.bytes)) = some (some (.agg #[.int .i64 0, .int .i64 0, .int .i64 0, .bool false]), 4, 32) := by kernel_rfl

theorem wp_app_sg {ops : Array Oper} {rest : List Oper} {o : Oper} {a : Act} {w : World} {Q : Exit → Act → World → Prop} (hgd : o.guard = none) (s x : Operand)
    (ho : o.op = .call { callee := .builtin .append, args := #[s, x], argTypes := #[126, 126] }) (A : Option Addr) (c : Nat) (L : List Pl) (hs : a.eval s = .slice A L.length c) (B : Nat) (hown : OwS w B A c L)
    (g0 : Nat) (r : Pl) (c0 : Nat) (hx : a.eval x = .slice (some ⟨g0, 0, none⟩) 1 c0) (hAt : At w g0 #[.int .i64 r.p, .int .i64 r.n, .int .i64 r.r, .bool r.bad] 130) (hlen : L.length ≤ 1000000000000) (hB : B ≤ w.heap.size)
    (h : ∀ A' c' w', OwS w' B A' c' (L ++ [r]) → Apd w w' A A' → wpList Tryd.prog ops Q rest (a.put o.dst (.slice A' (L.length + 1) c')) w') :
    wpList Tryd.prog ops Q (o :: rest) a w := by
  obtain ⟨i0, hi, hz0, hz1, hz2⟩ := info_parts infoS
  refine wpList_append_lies (P := Tryd.prog) w hgd s x 126 ho B 130 i0 _ 4 32 Tryd.underlying126 hi hz0 hz1 hz2 rfl (by decide) (.slice A L.length c) L.length (cS L) hs hown
    ⟨g0, 0, none⟩ 1 c0 (cS [r]) hx (by rw [cS_len]; rfl) (World.news_of_block hAt) (cS_one _) (by decide) (by unfold maxLen; omega) (by omega) hB w.heap.size rfl ?_
  intro g cap w' h1 h2 h3 h4
  refine h (some ⟨g, 0, none⟩) cap w' ?_ ⟨?_, ?_⟩
  · unfold OwS; rw [cS_app, List.length_append]; exact h1
  · rw [slice_block] at h2; exact h2
  · rw [slice_block] at h3
    rcases h3 with h3 | h3
    · exact .inl h3
    · right; show some g = _; rw [h3]

/-- The signs of a text as they lie. -/
def plc (l : List UInt8) (k : Nat) (x : Sg) : Pl := ⟨pos l k, x.bs.length, x.r, x.bad⟩
def pls (l : List UInt8) : List Pl := (sgs l).mapIdx (plc l)
theorem pls_len (l : List UInt8) : (pls l).length = (sgs l).length := by simp [pls]
theorem pls_at {l : List UInt8} {k : Nat} {x : Sg} (h : (sgs l)[k]? = some x) : (pls l)[k]? = some (plc l k x) := by simp [pls, h]
theorem pls_take {l : List UInt8} {k : Nat} {x : Sg} (h : (sgs l)[k]? = some x) : (pls l).take (k + 1) = (pls l).take k ++ [plc l k x] := by
  rw [List.take_add_one, pls_at h]; rfl

end Go.Proofs.YthkbenhlhldglaaDoor
namespace Go.Proofs.YthkbenhlhldglaaDoor
open Go.Shelf Go.RowKit

end Go.Proofs.YthkbenhlhldglaaDoor
namespace Go.Proofs.YthkbenhlhldglaaDoor
open Go.RowKit Go.Sort Go.Shelf
attribute [local go_sem] Oper.semAt_some

/-- A call that hands v back, and turns nothing that was there. -/
def Bt (w : World) (v : Value) (e : Ending) (w' : World) : Prop := e = .returned v ∧ Bl w w'

/-- Is a number one of those from a to b. -/
def btwB (r a b : Int) : Bool := decide (a ≤ r ∧ r ≤ b)
theorem between1 (r a b : Int) (w : World) : Calls Tryd.prog 139 #[.int .i32 r, .int .i32 a, .int .i32 b] w fun e w' => e = .returned (.bool (btwB r a b)) ∧ w = w' := by
  unfold btwB
  by_cases h : a ≤ r
  · by_cases k : r ≤ b
    · rw [decide_eq_true ⟨h, k⟩]
      go_enter Tryd.func139, Tryd.ntmps139
      go_wp2
      go_ret
      exact ⟨rfl, rfl⟩
    · rw [decide_eq_false (fun h' => k h'.2)]
      go_enter Tryd.func139, Tryd.ntmps139
      go_wp2
      go_ret
      exact ⟨rfl, rfl⟩
  · rw [decide_eq_false (fun h' => h h'.1)]
    have k : decide (a ≤ r) = false := decide_eq_false h
    go_enter Tryd.func139, Tryd.ntmps139
    go_wp2
    go_ret
    exact ⟨rfl, rfl⟩
/-- A sign's width. -/
def widZ (r : Int) : Int := if btwB r 768 879 = true then 0 else if btwB r 4352 4447 = true then 2 else if btwB r 11904 42191 = true then 2 else if btwB r 44032 55203 = true then 2 else if btwB r 65280 65376 = true then 2 else if btwB r 127744 129791 = true then 2 else 1
theorem widZ_bd (r : Int) : 0 ≤ widZ r ∧ widZ r ≤ 2 := by
  unfold widZ
  repeat' split
  all_goals omega
def oddB (r : Int) : Bool := decide (r < 32 ∨ r = 127 ∨ (8232 ≤ r ∧ r ≤ 8238))
theorem odd1 (r : Int) (w : World) : Calls Tryd.prog 127 #[.int .i32 r] w fun e w' => e = .returned (.bool (oddB r)) ∧ w = w' := by
  have c := between1 r 8232 8238
  by_cases h : r < 32
  · rw [show oddB r = true from decide_eq_true (.inl h)]
    go_enter Tryd.func127, Tryd.ntmps127
    go_wp2
    go_ret
    exact ⟨rfl, rfl⟩
  · by_cases k : r = 127
    · subst k
      go_enter Tryd.func127, Tryd.ntmps127
      go_wp2
      go_ret
      exact ⟨rfl, rfl⟩
    · have e : oddB r = btwB r 8232 8238 := by unfold oddB btwB; rw [Bool.eq_iff_iff]; simp; omega
      rw [e]
      have q : (r == 127) = false := by simpa using k
      have q2 : decide (r < 32) = false := decide_eq_false h
      generalize btwB r 8232 8238 = b at *
      clear e
      go_enter Tryd.func127, Tryd.ntmps127
      go_wp2_with fail
      refine (c _).mono ?_
      rintro e w' ⟨rfl, rfl⟩
      go_wp2
      go_ret
      exact ⟨rfl, rfl⟩

/-- The sign k of a text. -/
def rAt (l : List UInt8) (k : Fin (sgs l).length) : Int := ((sgs l)[k.1]'k.2).r
theorem sgs_get (l : List UInt8) (k : Fin (sgs l).length) : (sgs l)[k.1]? = some ((sgs l)[k.1]'k.2) := List.getElem?_eq_getElem k.2
theorem pre_bad {l : List UInt8} (h : l ≠ []) (hr : (sg1 l).r = 65533) : Lib.hasPrefix l [239, 191, 189] = !(sg1 l).bad := by
  have e : Lib.encodeRune 65533 = [239, 191, 189] := by decide
  cases hb : (sg1 l).bad
  · obtain ⟨_, h2⟩ := enc_dc h hb
    have h3 : ((dcL l).1 : Int) = 65533 := hr
    rw [h3, e] at h2
    unfold Lib.hasPrefix
    show _ = true
    rw [List.isPrefixOf_iff_prefix, ← h2]
    exact List.take_prefix _ _
  · show _ = false
    rw [Bool.eq_false_iff]
    intro hp
    obtain ⟨t, rfl⟩ := List.isPrefixOf_iff_prefix.1 hp
    rw [← e] at hb
    have h4 := sg1_enc (c := 65533) (.inr (by omega)) t
    rw [h4] at hb
    cases hb
theorem sg1_bad {l : List UInt8} (_ : l ≠ []) (hr : (sg1 l).r ≠ 65533) : (sg1 l).bad = false := by
  cases hb : (sg1 l).bad
  · rfl
  · have h1 : (dcL l).1 = 65533 ∧ (dcL l).2 = 1 := by simpa [sg1, isBad] using hb
    exact absurd (by unfold sg1; dsimp only; rw [h1.1]; rfl) hr
theorem extract_list (s : ByteArray) (a e : Nat) : (s.extract a e).data.toList = (s.data.toList.take e).drop a := by
  rw [ByteArray.data_extract, Array.toList_extract]
  rw [List.extract_eq_take_drop, List.drop_take]
theorem broken1 (s : ByteArray) (_ : s.size ≤ 9223372036854775807) (k : Nat) (x : Sg) (hx : (sgs s.data.toList)[k]? = some x) (w : World) :
    Calls Tryd.prog 128 #[.string s, .int .i64 (pos s.data.toList k : Nat), .int .i32 x.r] w fun e w' => e = .returned (.bool x.bad) ∧ w = w' := by
  obtain ⟨hp, hx1, _⟩ := sgs_at hx
  have hsz : s.data.toList.length = s.size := Array.length_toList
  rw [hsz] at hp
  have hne : s.data.toList.drop (pos s.data.toList k) ≠ [] := fun e => by
    have := congrArg List.length e
    rw [List.length_drop, hsz] at this
    simp at this
    omega
  by_cases hr : x.r = 65533
  · have hb : Lib.hasPrefix (s.extract (pos s.data.toList k) s.size).data.toList [239, 191, 189] = !x.bad := by
      rw [extract_list, ← hsz, List.take_length]
      rw [hx1] at hr ⊢
      exact pre_bad hne hr
    have c := fun w => sh_strings_HasPrefix (s.extract (pos s.data.toList k) s.size) ⟨#[239, 191, 189]⟩ w
    rw [show (⟨#[239, 191, 189]⟩ : ByteArray).data.toList = [239, 191, 189] from rfl, hb] at c
    rw [hr]
    clear hb hx1 hne hr hx hsz
    generalize pos s.data.toList k = p at *
    have hp' : (p : Int) ≤ s.size := by omega
    go_enter Tryd.func128, Tryd.ntmps128
    go_wp2_with fail
    refine (c _).mono ?_
    rintro e w' ⟨rfl, rfl⟩
    go_wp2
    go_ret
    exact ⟨by simp, rfl⟩
  · have hb : x.bad = false := by rw [hx1] at hr ⊢; exact sg1_bad hne hr
    have q : (x.r == 65533) = false := by simpa using hr
    rw [hb]
    clear hx1 hx hne hsz hb
    go_enter Tryd.func128, Tryd.ntmps128
    go_wp2
    go_ret
    exact ⟨rfl, rfl⟩

theorem signs1 (s : ByteArray) (w : World) : Calls Tryd.prog 126 #[.string s] w fun e w' => e = .returned (.func (.func 138) #[] #[.pointer (some ⟨w.heap.size, 0, none⟩)]) ∧ w' = w.alloc (.cells #[.string s] 9) := by
  go_enter Tryd.func126, Tryd.ntmps126
  go_wp2
  go_ret
  exact ⟨rfl, rfl⟩

theorem At.same {w w' : World} {b : Nat} {cs : Array Value} {t : TypeId} (h : At w b cs t) (e : w'.heap[b]? = w.heap[b]?) : At w' b cs t := by unfold At at *; rw [e]; exact h
theorem by_iterAt (w : World) (k : Nat) (s : ByteArray) (p : Nat) : w.grownBy (w.iterAt k s p) (some k) := ⟨rfl, rfl, rfl, by rw [Lib.iterAt_size]; exact Nat.le_refl _, fun i _ hne => Lib.iterAt_other w k i s p (fun e => hne (by rw [e]))⟩
/-- What Signs tells of a sign. -/
def sgV (l : List UInt8) (k : Fin (sgs l).length) : Array Value := #[.int .i64 (pos l k.1 : Nat), .int .i32 (rAt l k)]

set_option maxRecDepth 100000 in
set_option maxHeartbeats 2000000 in
theorem signsIter (n : Nat) (hn : 1 ≤ n) (l0 Bs ts : Nat) (s : ByteArray) (_ : s.size ≤ 9223372036854775807) (J Jx : List (Fin (sgs s.data.toList).length) → World → Prop) (V : World)
    (hA : ∀ pre A B row, J pre A → A.grownBy B row → (∀ r, row = some r → V.heap.size ≤ r ∧ ∃ o : Obj, A.heap[r]? = some o ∧ o.isWalk = true) → J pre B)
    (hY : ∀ pre k W1, J pre W1 → pre.length < (sgs s.data.toList).length → YieldAt Fence.wide (n - 1) Tryd.prog l0 (sgV s.data.toList k) W1 fun e W' =>
      (e = .returned (.bool true) ∧ J (pre ++ [k]) W' ∧ KeepsWalks W1 W') ∨ (e = .returned (.bool false) ∧ Jx (pre ++ [k]) W'))
    (hb : At V Bs #[.string s] ts) (h0 : J [] V) :
    CallsIn Fence.wide n Tryd.prog 138 #[.func (.yield l0) #[] #[], .pointer (some ⟨Bs, 0, none⟩)] V fun e W' => (∃ v, e = .returned v) ∧
      ((∃ ys : List (Fin (sgs s.data.toList).length), ys.map (·.1) = List.range (sgs s.data.toList).length ∧ J ys W') ∨ (∃ pre : List (Fin (sgs s.data.toList).length), pre.map (·.1) <+: List.range (sgs s.data.toList).length ∧ Jx pre W')) := by
  refine callsIn_of_wp Tryd.func138 rfl trivial ?_ rfl
  simp only [Tryd.ntmps138, List.size_toArray, List.length_cons, List.length_nil, Nat.reduceAdd, Nat.reduceSub, Array.replicate_succ, Array.replicate_zero, List.push_toArray, List.append_toArray, List.nil_append, List.cons_append]
  have b1 : V.cell? ⟨Bs, 0, none⟩ = some (.string s) := hb.cell 0
  have hsz : s.data.toList.length = s.size := Array.length_toList
  have hdec := decode_dcL s
  generalize hl : s.data.toList = l at *
  replace hsz := Lib.hid hsz
  replace hdec := Lib.hid hdec
  replace hl := Lib.hid hl
  have hJ0 := hA [] V (V.iter s 0) none h0 (((Gr.refl V).alloc (.stringIter s 0)).bl.by) (fun r e => by cases e)
  have hi0 : (V.iter s 0).heap[V.heap.size]? = some (.stringIter s (pos l 0)) := World.iter_heap V s 0
  gi_wp2
  clear b1
  gi_loopw [] (fun wr => ∃ (k : Nat) (pre : List (Fin (sgs l).length)), k ≤ (sgs l).length ∧ Hid (pre.map (·.1) = List.range k) ∧ J pre wr ∧ wr.heap[V.heap.size]? = some (.stringIter s (pos l k)))
    (fun wr => s.size - wr.iterPos V.heap.size)
  case atStart => exact ⟨0, [], Nat.zero_le _, Lib.hid rfl, hJ0, hi0⟩
  case round =>
    obtain ⟨k, pre, hk, hpre, hJ, hit⟩ := hrel
    have hlen : pre.length = k := by have := congrArg List.length hpre.out; simpa using this
    have hip : wr.iterPos V.heap.size = pos l k := by unfold World.iterPos; rw [hit]
    by_cases hlt : k < (sgs l).length
    · have hx := sgs_get l ⟨k, hlt⟩
      have hYY := hY pre ⟨k, hlt⟩ (wr.iterAt V.heap.size s (pos l (k + 1))) (hA _ _ _ _ hJ (by_iterAt wr V.heap.size s (pos l (k + 1))) (fun r e => by cases e; exact ⟨Nat.le_refl _, _, hit, rfl⟩)) (by omega)
      obtain ⟨hp, hx1, hx2⟩ := sgs_at hx
      have hps := pos_succ hx
      have hit2 := Lib.iterAt_heap wr V.heap.size s (pos l k) (pos l (k + 1)) hit
      have rv : sgV l ⟨k, hlt⟩ = #[.int .i64 (pos l k : Nat), .int .i32 ((dcL (l.drop (pos l k))).1 : Int)] := by
        unfold sgV rAt
        rw [hx1]
        rfl
      have hnx : ∀ ty, (Instr.next (.pointer (some ⟨V.heap.size, 0, none⟩)) true ty).run Tryd.prog wr = .ok (.tuple #[.bool true, .int .i64 (pos l k : Nat), .int .i32 ((dcL (l.drop (pos l k))).1 : Int)]) (wr.iterAt V.heap.size s (pos l (k + 1))) := fun ty => by
        rw [Lib.run_next_any_at wr V.heap.size s (pos l k) ty hit (by rw [← hsz.out]; exact hp), hdec.out, hps, hx2]
      have hms : pos l k < pos l (k + 1) := pos_lt (by omega) (by omega)
      rw [rv] at hYY
      rw [hsz.out] at hp
      clear rv hps hx1 hx2 hx hY hA hJ
      replace hit := Lib.hid hit
      replace hip := Lib.hid hip
      replace hlen := Lib.hid hlen
      generalize wr.iterAt V.heap.size s (pos l (k + 1)) = W1 at *
      generalize ((dcL (l.drop (pos l k))).1 : Int) = r at *
      replace hit2 := Lib.hid hit2
      obtain ⟨fn, tmps, assign, body, hyy, hR⟩ := hYY
      gi_wp2_with fail
      refine hR.mono ?_
      rintro e W3 (⟨rfl, hJ3, hk3⟩ | ⟨rfl, hJx3⟩)
      · have hit3 := hk3.same _ _ hit2.out rfl
        replace hit3 := Lib.hid hit3
        gi_wp2
        go_roundw
        case rel => exact ⟨k + 1, pre ++ [⟨k, hlt⟩], by omega, Lib.hid (by rw [List.map_append, hpre.out, List.range_succ]; rfl), hJ3, hit3.out⟩
        case measure => rw [hip.out]; unfold World.iterPos; rw [hit3.out]; dsimp only; omega
      · gi_wp2
        refine bodyPost_ret (results_none rfl _ _ _) rfl ?_
        refine ⟨⟨_, rfl⟩, .inr ⟨pre ++ [⟨k, hlt⟩], ?_, hJx3⟩⟩
        rw [List.map_append, hpre.out]
        refine ⟨List.range' (k + 1) ((sgs l).length - (k + 1)), ?_⟩
        show List.range k ++ [k] ++ _ = _
        rw [← List.range_succ, List.range_eq_range', List.range_eq_range']
        have := List.range'_append_1 (s := 0) (m := k + 1) (n := (sgs l).length - (k + 1))
        rw [Nat.zero_add] at this
        rw [this, show k + 1 + ((sgs l).length - (k + 1)) = (sgs l).length by omega]
    · obtain rfl : k = (sgs l).length := by omega
      have hnx : ∀ ty, (Instr.next (.pointer (some ⟨V.heap.size, 0, none⟩)) true ty).run Tryd.prog wr = .ok (.tuple #[.bool false]) wr := fun ty =>
        Lib.run_next_end_at wr V.heap.size s _ ty hit (by rw [pos_end, hsz.out]; omega)
      clear hY hA
      replace hit := Lib.hid hit
      replace hip := Lib.hid hip
      replace hlen := Lib.hid hlen
      gi_wp2
      go_end0
      exact ⟨⟨_, rfl⟩, .inl ⟨pre, hpre.out, hJ⟩⟩

theorem signsStops (n : Nat) (hn : 1 ≤ n) (Bs ts : Nat) (s : ByteArray) (hs : s.size ≤ 9223372036854775807) (V : World) (hb : At V Bs #[.string s] ts) :
    SeqStopsK Fence.wide n Tryd.prog 138 #[.pointer (some ⟨Bs, 0, none⟩)] (sgV s.data.toList) KeepsWalks
      (fun ks => ks.map (·.1) = List.range (sgs s.data.toList).length) (fun pre => pre.map (·.1) <+: List.range (sgs s.data.toList).length) (sgs s.data.toList).length V := fun l J Jx W' hW' hJ _ hY h0 =>
  signsIter n hn l Bs ts s hs J Jx W' hJ hY (hb.same (hW'.block _ hb.lt)) h0

end Go.Proofs.YthkbenhlhldglaaDoor
