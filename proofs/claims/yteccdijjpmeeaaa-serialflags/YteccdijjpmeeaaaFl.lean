/-
  A struct of five bools that comes in.
-/
import Derived.Test.YteccdijjpmeeaaaP10
import Derived.WalkKit
import Derived.ProofKit
import Derived.OpenShut
import Derived.ChangeOld
namespace Go.Proofs.Yteccdijjpmeeaaa
open Go.ChangeShapes Go.WideShapes Go.ChangeAt Go.RowKit
set_option linter.unusedVariables false
set_option maxRecDepth 100000
theorem array5 {α : Type} {cs : Array α} (h : cs.size = 5) : ∃ c0 c1 c2 c3 c4, cs = #[c0, c1, c2, c3, c4] := by
  obtain ⟨l⟩ := cs
  match l, h with
  | [c0, c1, c2, c3, c4], _ => exact ⟨c0, c1, c2, c3, c4, rfl⟩
theorem open_flags {H : Type} {enc : TypeId × Value → H} {w : World} {base b0 : Nat} {spare : Nat → Bool} {held : Bool} {r : Reach} {v : Value} {d : DataW H} {p : List MemPlace} (hv : Value.okWide Try.prog w r b0 23 v) (h : DataW.Trod enc Try.prog w base spare held 23 v d p) :
    ∃ f : Fg, v = fgV f := by
  have h5 : Try.prog.cellsOf 23 = 5 := by kernel_rfl
  have hc4 : Try.prog.cellsOf 4 = 1 := by kernel_rfl
  obtain ⟨cs, rfl, hsz⟩ := okWide_struct Try.underlying23 hv
  obtain ⟨v0, v1, v2, v3, v4, rfl⟩ := array5 (hsz.trans h5)
  obtain ⟨fuel, hf⟩ := h
  obtain ⟨xs, n, _, _, _, hlen, hx⟩ := DataW.trod_struct Try.underlying23 hf
  have get : ∀ (i : Nat) (y : DataW H × List MemPlace) (u : Value), xs[i]? = some y → DataW.trod enc Try.prog w base spare held n 4 [u] = xs[i]? → ∃ b, u = .bool b := fun i y u hy ht => by
    rw [hy] at ht
    obtain ⟨b, e, _⟩ := DataW.trod_bool Try.underlying4 ht
    exact ⟨b, by injection e⟩
  match xs, hlen with
  | [y0, y1, y2, y3, y4], _ =>
    have t0 : DataW.trod enc Try.prog w base spare held n 4 (([v0, v1, v2, v3, v4].drop 0).take (Try.prog.cellsOf 4)) = [y0, y1, y2, y3, y4][0]? := hx 0 _ rfl
    have t1 : DataW.trod enc Try.prog w base spare held n 4 (([v0, v1, v2, v3, v4].drop 1).take (Try.prog.cellsOf 4)) = [y0, y1, y2, y3, y4][1]? := hx 1 _ rfl
    have t2 : DataW.trod enc Try.prog w base spare held n 4 (([v0, v1, v2, v3, v4].drop 2).take (Try.prog.cellsOf 4)) = [y0, y1, y2, y3, y4][2]? := hx 2 _ rfl
    have t3 : DataW.trod enc Try.prog w base spare held n 4 (([v0, v1, v2, v3, v4].drop 3).take (Try.prog.cellsOf 4)) = [y0, y1, y2, y3, y4][3]? := hx 3 _ rfl
    have t4 : DataW.trod enc Try.prog w base spare held n 4 (([v0, v1, v2, v3, v4].drop 4).take (Try.prog.cellsOf 4)) = [y0, y1, y2, y3, y4][4]? := hx 4 _ rfl
    rw [hc4] at t0 t1 t2 t3 t4
    obtain ⟨b0, rfl⟩ := get 0 y0 v0 rfl t0
    obtain ⟨b1, rfl⟩ := get 1 y1 v1 rfl t1
    obtain ⟨b2, rfl⟩ := get 2 y2 v2 rfl t2
    obtain ⟨b3, rfl⟩ := get 3 y3 v3 rfl t3
    obtain ⟨b4, rfl⟩ := get 4 y4 v4 rfl t4
    exact ⟨⟨b0, b1, b2, b3, b4⟩, rfl⟩
end Go.Proofs.Yteccdijjpmeeaaa
