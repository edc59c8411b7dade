/-
  What is proved: what Encode of the document hands back of any request (all ways joined). No conditions but bounds.
-/
import Derived.Test.YthkbenhlhldglaaDoorZoa
import Derived.Test.YthkbenhlhldglaaDoorZob
import Derived.Test.YthkbenhlhldglaaDoorZoc
import Derived.Test.YthkbenhlhldglaaDoorZod
import Derived.Test.YthkbenhlhldglaaDoorZoe
namespace Go.Proofs.YthkbenhlhldglaaDoor
open Go.RowKit Go.Sort

set_option maxRecDepth 100000 in
set_option maxHeartbeats 2000000 in
theorem renc1 (r : Rq) (d : Value) (w : World) (hd : Sv w d r.d) (br : ByL r.d) :
    Calls Tryd.prog 13 #[vQ r d] w (EncQ w (encR r)) := by
  by_cases ho : 0 ≤ r.op ∧ r.op ≤ 18
  case neg => exact renc0 r d w hd ho
  obtain ⟨A, c, rfl, hA⟩ := hd
  have hd : Sv w (.slice A r.d.length c) r.d := ⟨A, c, rfl, hA⟩
  obtain ⟨op, id, a, b, x0, y0, x1, y1, s, L⟩ := r
  dsimp only at ho hd br
  obtain ⟨N, rfl⟩ : ∃ N : Nat, op = N := ⟨op.toNat, by omega⟩
  have hN : N < 19 := by omega
  obtain ⟨f1, f2, f3, _⟩ := fmL_ok hN
  have e : encR ⟨N, id, a, b, x0, y0, x1, y1, s, L⟩ = encP ⟨N, id, a, b, x0, y0, x1, y1, s, L⟩ (pkR (fmL N) (argL (fmL N) 0 ⟨N, id, a, b, x0, y0, x1, y1, s, L⟩)) := by
    unfold encR
    rw [if_pos ho]; rfl
  rw [e]
  clear e
  have hby := pkR_by (fmL N) _ (argL_by (r := ⟨N, id, a, b, x0, y0, x1, y1, s, L⟩) br (fmL N) 0)
  have hal : (argL (fmL N) 0 ⟨N, id, a, b, x0, y0, x1, y1, s, L⟩).length ≤ 1000000 := by rw [argL_len]; omega
  have cf := fun V => (forms1 V).mono (R' := fun e w' => e = .returned (.slice (some ⟨V.heap.size, 0, none⟩) 19 19) ∧ w'.cell? ⟨V.heap.size, N, none⟩ = some (.string (fmS N)) ∧ Gr V w') (fun e w' h => ⟨h.1, (h.2.1.cell N).trans (formsC_at N hN), h.2.2⟩)
  have cp := fun (A' : Option Addr) (c' : Nat) (X : List (Av × Value)) (V : World) (hX : X.map Prod.fst = argL (fmL N) 0 ⟨N, id, a, b, x0, y0, x1, y1, s, L⟩) (hV : Vv V A' X) => (show Calls Tryd.prog 42 #[.string (fmS N), .slice A' X.length c'] V (PackQ V (pkR (fmL N) (argL (fmL N) 0 ⟨N, id, a, b, x0, y0, x1, y1, s, L⟩))) from by
    have h := rpack1 (fmS N) A' c' X V (show (fmL N).length ≤ 1000 by omega) (by rw [← List.length_map (f := Prod.fst), hX]; exact hal) hV
    rw [fmS_list, hX] at h
    exact h)
  generalize hp : pkR (fmL N) (argL (fmL N) 0 ⟨N, id, a, b, x0, y0, x1, y1, s, L⟩) = p at *
  have cm := fun (A' : Option Addr) (c' : Nat) (V : World) => rmayM1 A' c' ⟨N, id, p.1⟩ V
  have cd := fun (A' : Option Addr) (c' : Nat) (V : World) (hs : Sv V (.slice A' p.1.length c') p.1) => (show Calls _ _ _ V (DecQ V (fun k => A'.map (·.block) = some k) (decR ⟨N, id, p.1⟩)) from by
    obtain ⟨A'', c'', h0, hn, hle, hcm, hR⟩ := hs
    injection h0 with e1 e2 e3
    subst e1 e3
    exact rdec1 ⟨N, id, p.1⟩ A' c' V hR hn hle hcm hby.1 (by show p.1.length ≤ 1000000; omega))
  have cs := fun (V : World) (d' : Value) (g : Bl w V) (hs : Sv V d' (decR ⟨N, id, p.1⟩).1.d) => rsameQ1 (decR ⟨N, id, p.1⟩).1 ⟨N, id, a, b, x0, y0, x1, y1, s, L⟩ d' (.slice A L.length c) V hs (hd.bl g) (dec_by hby.1) br
  have hmd : mayM ⟨N, id, p.1⟩ = false → ¬ (decR ⟨N, id, p.1⟩).2 = 0 := may_dec hN hby.2.1
  unfold encP
  dsimp only
  clear hp
  generalize mayM ⟨N, id, p.1⟩ = mb at *
  generalize decR ⟨N, id, p.1⟩ = got at *
  generalize sameQ got.1 ⟨N, id, a, b, x0, y0, x1, y1, s, L⟩ = sm at *
  have hFz : (fmS N).size ≤ 2 := f3
  have hFm := formR_mem _ f1
  by_cases hE : p.2 = 0
  case neg =>
    rw [if_neg (fun h => hE h.1)]
    exact renc_short N L.length hN id a b x0 y0 x1 y1 s A c w (fmS N) _ p got L sm mb rfl hd rfl hFz hFm cf cp cm cd cs hE
  cases hm : mb with
  | false =>
    rw [if_neg (fun h => hmd hm h.2.1)]
    exact renc_id N L.length hN id a b x0 y0 x1 y1 s A c w (fmS N) _ p got L sm mb rfl hd rfl hFz hFm cf cp cm cd cs hE hm
  | true =>
    by_cases hf : got.2 = 0
    case neg =>
      rw [if_neg (fun h => hf h.2.1)]
      exact renc_err N L.length hN id a b x0 y0 x1 y1 s A c w (fmS N) _ p got L sm mb rfl hd rfl hFz hFm cf cp cm cd cs hE hm hf
    cases hs : sm with
    | false =>
      rw [if_neg (fun h => by simp at h)]
      exact renc_not N L.length hN id a b x0 y0 x1 y1 s A c w (fmS N) _ p got L sm mb rfl hd rfl hFz hFm cf cp cm cd cs hE hm hf hs
    | true =>
      rw [if_pos ⟨hE, hf, rfl⟩]
      exact renc_ok N L.length hN id a b x0 y0 x1 y1 s A c w (fmS N) _ p got L sm mb rfl hd rfl hFz hFm cf cp cm cd cs hE hm hf hs

end Go.Proofs.YthkbenhlhldglaaDoor
