/-
  What is proved: what the small calls of package region on bands hand back.
-/
import Derived.Test.YtafceieenhogpaaX
import Derived.Handy
namespace Go.Proofs.Ytafceieenhogpaa
open Go.RowKit Go.Sort

theorem own_ne_at {w : World} {B s n m c g : Nat} {e : TypeId} {A : Option Addr} {xs : List Value} {cs : Array Value} {t : TypeId} (h : w.ownsRow B e s (.slice A m c) n xs) (h' : At w g cs t) (hne : e ≠ t) : some g ≠ A.map (·.block) := by
  rcases h.2 with ⟨h1, _⟩ | ⟨x, cap, cur, h1, _, h3, _⟩
  · injection h1 with h1; subst h1; simp
  · injection h1 with h1
    subst h1
    intro he
    simp at he
    subst he
    unfold At at h'
    rw [h'] at h3
    injection h3 with h3
    injection h3 with _ h4
    exact hne h4.symm
theorem OwI.ne_at {w : World} {B c g : Nat} {A : Option Addr} {L : List Int} {cs : Array Value} {t : TypeId} (h : OwI w B A c L) (h' : At w g cs t) (hne : 3 ≠ t) : some g ≠ A.map (·.block) := own_ne_at h h' hne
theorem OwB.ne_at {w : World} {B c g : Nat} {A : Option Addr} {L : List BV} {cs : Array Value} {t : TypeId} (h : OwB w B A c L) (h' : At w g cs t) (hne : 92 ≠ t) : some g ≠ A.map (·.block) := own_ne_at h h' hne
theorem OwR.ne_at {w : World} {B c g : Nat} {A : Option Addr} {L : List Rc} {cs : Array Value} {t : TypeId} (h : OwR w B A c L) (h' : At w g cs t) (hne : 24 ≠ t) : some g ≠ A.map (·.block) := own_ne_at h h' hne
theorem At.new2 (w : World) (o : Obj) (cs : Array Value) (t : TypeId) : At ((w.alloc o).alloc (.cells cs t)) (w.heap.size + 1) cs t := by
  have := At.new (w.alloc o) cs t
  simp only [World.size_alloc] at this
  exact this

/-- A band: what it is, and how it lies. -/
structure Bn where
  y0 : Int
  y1 : Int
  E : List Int
structure BW where
  y0 : Int
  y1 : Int
  E : List Int
  A : Option Addr
  c : Nat
def BW.bn (r : BW) : Bn := ⟨r.y0, r.y1, r.E⟩
def BW.bv (r : BW) : BV := ⟨r.y0, r.y1, .slice r.A r.E.length r.c⟩
def BW.ok (w : World) (r : BW) : Prop := r.E.length ≤ r.c ∧ Is w r.A r.E
theorem BW.ok.bl {w w' : World} {r : BW} (h : r.ok w) (g : Bl w w') : r.ok w' := ⟨h.1, h.2.bl g⟩
def Bs (w : World) (A : Option Addr) (l : List BW) : Prop := (l = [] ∨ ∃ b off, A = some ⟨b, off, none⟩ ∧ RowB w b off (l.map BW.bv)) ∧ ∀ r ∈ l, r.ok w
theorem Bs.bl {w w' : World} {A : Option Addr} {l : List BW} (h : Bs w A l) (g : Bl w w') : Bs w' A l := by
  refine ⟨?_, fun r hr => (h.2 r hr).bl g⟩
  rcases h.1 with h1 | ⟨b, off, h1, h2⟩
  · exact .inl h1
  · exact .inr ⟨b, off, h1, h2.bl g⟩
theorem Bs.opened {w : World} {A : Option Addr} {l : List BW} (h : Bs w A l) (hn : 0 < l.length) : ∃ b off, A = some ⟨b, off, none⟩ ∧ RowB w b off (l.map BW.bv) := by
  rcases h.1 with h | h
  · subst h; simp at hn
  · exact h
theorem RowB.at_ {w : World} {b off : Nat} {l : List BW} (h : RowB w b off (l.map BW.bv)) {k : Nat} {r : BW} (hk : l[k]? = some r) : w.cell? ⟨b, off + k * 3, none⟩ = some (.int .i64 r.y0) ∧ w.cell? ⟨b, off + k * 3 + 1, none⟩ = some (.int .i64 r.y1) ∧
    w.cell? ⟨b, off + k * 3 + 2, none⟩ = some (.slice r.A r.E.length r.c) := by
  have := h k r.bv (by simp [hk])
  exact this
def edgesL (l : List Bn) (y : Int) : List Int := match l with | [] => [] | b :: _ => if y < b.y0 then [] else b.E
def fromL (y : Int) : List Bn → List Bn
  | [] => []
  | b :: l => if b.y1 ≤ y then fromL y l else b :: l

/-- A slice of ints is handed back, nothing has turned. -/
def RI (w : World) (Q : List Int → Prop) (e : Ending) (w' : World) : Prop := ∃ (A : Option Addr) (c : Nat) (E : List Int), e = .returned (.slice A E.length c) ∧ E.length ≤ c ∧ Is w' A E ∧ Q E ∧ w = w'
def RB (w : World) (Q : List Bn → Prop) (e : Ending) (w' : World) : Prop := ∃ (A : Option Addr) (c : Nat) (l : List BW), e = .returned (.slice A l.length c) ∧ l.length ≤ c ∧ Bs w' A l ∧ Q (l.map BW.bn) ∧ w = w'

/-- A slice of ints is handed back, in memory of the call's own. -/
def RN (w : World) (Q : List Int → Prop) (e : Ending) (w' : World) : Prop := ∃ (A : Option Addr) (c : Nat) (E : List Int), e = .returned (.slice A E.length c) ∧ OwI w' w.heap.size A c E ∧ Q E ∧ Bl w w'

set_option maxHeartbeats 1000000 in
theorem edgesAt1 (A : Option Addr) (c : Nat) (l : List BW) (y : Int) (w : World) (h : Bs w A l) :
    Calls Try.prog 117 #[.slice A l.length c, .int .i64 y] w (RI w (fun E => E = edgesL (l.map BW.bn) y)) := by
  cases l with
  | nil =>
    go_enter Try.func117, Try.ntmps117
    go_wp2
    go_ret
    exact ⟨none, 0, [], rfl, by simp, .inl rfl, rfl, rfl⟩
  | cons r l =>
    obtain ⟨b, off, rfl, hr⟩ := h.opened (by simp)
    obtain ⟨e1, e2, e3⟩ := hr.at_ (k := 0) (r := r) rfl
    obtain ⟨o1, o2⟩ := h.2 r (by simp)
    simp only [Nat.zero_mul, Nat.add_zero] at e1 e2 e3
    clear hr h
    have hn : 0 < (r :: l).length := by simp
    obtain ⟨n, hN⟩ : ∃ n, n = (r :: l).length := ⟨_, rfl⟩
    rw [← hN] at hn ⊢
    have HN := Lib.hid hN
    clear hN
    by_cases hy : y < r.y0
    · go_enter Try.func117, Try.ntmps117
      go_wp2
      go_ret
      exact ⟨none, 0, [], rfl, by simp, .inl rfl, by simp [edgesL, BW.bn, hy], rfl⟩
    · go_enter Try.func117, Try.ntmps117
      go_wp2
      go_ret
      exact ⟨r.A, r.c, r.E, rfl, o1, o2, by show r.E = if y < r.y0 then [] else r.E; rw [if_neg (by omega)], rfl⟩

theorem Bs.tail {w : World} {b off : Nat} {r : BW} {l : List BW} (h : Bs w (some ⟨b, off, none⟩) (r :: l)) : Bs w (some ⟨b, off + 3, none⟩) l := by
  refine ⟨.inr ⟨b, off + 3, rfl, fun k q hk => ?_⟩, fun q hq => h.2 q (by simp [hq])⟩
  obtain ⟨b', off', he, hr⟩ := h.opened (by simp)
  injection he with he
  injection he with h1 h2
  subst h1 h2
  have := hr (k + 1) q (by simpa using hk)
  rw [show off + (k + 1) * 3 = off + 3 + k * 3 from by omega] at this
  exact this

set_option maxHeartbeats 1000000 in
theorem from1 (A : Option Addr) (c : Nat) (l : List BW) (y : Int) (w : World) (h : Bs w A l) (hc : l.length ≤ c) (hl : c ≤ 9223372036854775807) :
    Calls Try.prog 114 #[.slice A l.length c, .int .i64 y] w (RB w (fun E => E = fromL y (l.map BW.bn))) := by
  go_enter Try.func114, Try.ntmps114
  go_wp2
  go_loop [0] (fun v => ∃ (A' : Option Addr) (c' : Nat) (l' : List BW), v = .slice A' l'.length c' ∧ l'.length ≤ c' ∧ c' ≤ c ∧ Bs w A' l' ∧ Hid (fromL y (l'.map BW.bn) = fromL y (l.map BW.bn))) (fun v => match v with | .slice _ n _ => n | _ => 0)
  case atStart => exact ⟨A, c, l, rfl, hc, Nat.le_refl _, h, Lib.hid rfl⟩
  case round =>
    obtain ⟨A', c', l', rfl, hc', hcc, h', hq⟩ := hrel
    cases l' with
    | nil =>
      go_wp2
      go_ret
      exact ⟨A', c', [], rfl, by simp, h', hq.out, rfl⟩
    | cons r l' =>
      obtain ⟨b, off, rfl, hr⟩ := h'.opened (by simp)
      obtain ⟨e1, e2, e3⟩ := hr.at_ (k := 0) (r := r) rfl
      simp only [Nat.zero_mul, Nat.add_zero] at e1 e2 e3
      have HR := Lib.hid hr
      clear hr
      have hn : 0 < (r :: l').length := by simp
      obtain ⟨n, hN⟩ : ∃ n, n = (r :: l').length := ⟨_, rfl⟩
      rw [← hN] at hn hc' ⊢
      have HN := Lib.hid hN
      clear hN
      by_cases hy : r.y1 ≤ y
      · by_cases hc1 : c' = 1
        · go_wp2
          have hl' : l' = [] := List.eq_nil_of_length_eq_zero (by have := HN.out; simp at this; omega)
          subst hl'
          refine ⟨⟨some ⟨b, off, none⟩, 0, [], by have := HN.out; simp at this; subst this; rfl, by simp, by omega, ⟨.inl rfl, by simp⟩, Lib.hid ?_⟩, ?_⟩
          · rw [← hq.out]; show fromL y [] = if r.y1 ≤ y then fromL y [] else _; rw [if_pos hy]
          · show n - 1 < n; omega
        · go_wp2
          have hn' : n - 1 = l'.length := by have := HN.out; simp at this; omega
          refine ⟨⟨some ⟨b, off + 3, none⟩, c' - 1, l', by rw [hn'], by omega, by omega, Bs.tail h', Lib.hid ?_⟩, ?_⟩
          · rw [← hq.out]; show fromL y (l'.map BW.bn) = if r.y1 ≤ y then fromL y (l'.map BW.bn) else _; rw [if_pos hy]
          · show n - 1 < n; omega
      · go_wp2
        go_ret
        exact ⟨some ⟨b, off, none⟩, c', r :: l', by rw [← HN.out]; rfl, by rw [← HN.out]; exact hc', h', by show _ = _; rw [← hq.out]; show _ = if r.y1 ≤ y then _ else _; rw [if_neg (by omega)]; rfl, rfl⟩

end Go.Proofs.Ytafceieenhogpaa
