/-
  What is proved: what Encode of package request hands back of any request (all ways joined). No conditions but bounds.
-/
import Derived.Test.YthkbenhlhldglaaDoorZm
namespace Go.Proofs.YthkbenhlhldglaaDoor
open Go.RowKit Go.Sort

set_option maxRecDepth 100000 in
set_option maxHeartbeats 2000000 in
theorem enc1 (r : Rq) (d : Value) (w : World) (hd : Sv w d r.d) (br : ByL r.d) :
    Calls Tryd.prog 20 #[vQ r d] w (EncQ w (encR r)) := by
  by_cases ho : 0 ≤ r.op ∧ r.op ≤ 18
  case neg => exact enc0 r d w hd ho
  obtain ⟨A, c, rfl, hA⟩ := hd
  have hd : Sv w (.slice A r.d.length c) r.d := ⟨A, c, rfl, hA⟩
  obtain ⟨op, id, a, b, x0, y0, x1, y1, s, L⟩ := r
  dsimp only at ho hd br
  obtain ⟨N, rfl⟩ : ∃ N : Nat, op = N := ⟨op.toNat, by omega⟩
  have hN : N < 19 := by omega
  obtain ⟨f1, f2, f3, _⟩ := fmL_ok hN
  have e : encR ⟨N, id, a, b, x0, y0, x1, y1, s, L⟩ = encP ⟨N, id, a, b, x0, y0, x1, y1, s, L⟩ (pkR (fmL N) (argL (fmL N) 0 ⟨N, id, a, b, x0, y0, x1, y1, s, L⟩)) := by
    unfold encR
    rw [if_pos ho]; rfl
  rw [e]
  clear e
  have hby := pkR_by (fmL N) _ (argL_by (r := ⟨N, id, a, b, x0, y0, x1, y1, s, L⟩) br (fmL N) 0)
  have hal : (argL (fmL N) 0 ⟨N, id, a, b, x0, y0, x1, y1, s, L⟩).length ≤ 1000000 := by rw [argL_len]; omega
  have c1 := fun V => find1 N hN V
  have ca := fun V (g : Bl w V) => args1 ⟨N, id, a, b, x0, y0, x1, y1, s, L⟩ (.slice A L.length c) (fmS N) V (hd.bl g) (show (fmL N).length ≤ 2 from f3) (formR_mem _ f1)
  have cp := fun (A' : Option Addr) (c' : Nat) (xs : List Value) (V : World) (hY : Yv V A' xs) (hall : AllA V xs (argL (fmL N) 0 ⟨N, id, a, b, x0, y0, x1, y1, s, L⟩)) => apack1 (fmS N) A' c' xs _ V (show (fmL N).length ≤ 1000 by omega) hal hY hall
  rw [fmS_list] at ca cp
  generalize pkR (fmL N) (argL (fmL N) 0 ⟨N, id, a, b, x0, y0, x1, y1, s, L⟩) = p at *
  have cd := fun (A' : Option Addr) (c' : Nat) (V : World) (hs : Sv V (.slice A' p.1.length c') p.1) => (show Calls _ _ _ V (DecQ V (fun k => V.heap.size ≤ k) (decR ⟨N, id, p.1⟩)) from by
    obtain ⟨A'', c'', h0, hn, hle, hcm, hR⟩ := hs
    injection h0 with e1 e2 e3
    subst e1 e3
    exact dec1 ⟨N, id, p.1⟩ A' c' V hR hn hle hcm hby.1 (by show p.1.length ≤ 1000000; omega))
  have cs := fun (V : World) (d' : Value) (g : Bl w V) (hs : Sv V d' (decR ⟨N, id, p.1⟩).1.d) => qsame1 (decR ⟨N, id, p.1⟩).1 ⟨N, id, a, b, x0, y0, x1, y1, s, L⟩ d' (.slice A L.length c) V hs (hd.bl g) (dec_by hby.1) br
  unfold encP
  dsimp only
  generalize decR ⟨N, id, p.1⟩ = got at *
  generalize sameQ got.1 ⟨N, id, a, b, x0, y0, x1, y1, s, L⟩ = sm at *
  by_cases hE : p.2 = 0
  case neg =>
    rw [if_neg (fun h => hE h.1)]
    exact enc_short N L.length hN id a b x0 y0 x1 y1 s A c w (fmS N) (nmS N) (mayF N) _ p got L sm rfl hd c1 ca cp cd cs hE
  by_cases hf : got.2 = 0
  case neg =>
    rw [if_neg (fun h => hf h.2.1)]
    exact enc_err N L.length hN id a b x0 y0 x1 y1 s A c w (fmS N) (nmS N) (mayF N) _ p got L sm rfl hd c1 ca cp cd cs hE hf
  cases hs : sm with
  | false =>
    rw [if_neg (fun h => by simp at h)]
    exact enc_not N L.length hN id a b x0 y0 x1 y1 s A c w (fmS N) (nmS N) (mayF N) _ p got L sm rfl hd c1 ca cp cd cs hE hf hs
  | true =>
    rw [if_pos ⟨hE, hf, rfl⟩]
    exact enc_ok N L.length hN id a b x0 y0 x1 y1 s A c w (fmS N) (nmS N) (mayF N) _ p got L sm rfl hd c1 ca cp cd cs hE hf hs

end Go.Proofs.YthkbenhlhldglaaDoor
