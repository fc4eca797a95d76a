/-
  An attribute that is set, of a document told by its nodes and rows.
-/
import Derived.Test.YtojbjiopilkbgaaDa
import Derived.Test.YtojbjiopilkbgaaSt
namespace Go.Proofs.Ytojbjiopilkbgaa
open Go.RowKit
set_option linter.unusedVariables false
set_option maxRecDepth 100000
set_option maxHeartbeats 4000000
section
variable {L : Nat} {K : Nat → Prop} {w w' : World} {p : Nat} {xs : List Nd} {Q : Nat → List Nat}
theorem Dq.set (h : Dq L K w p xs Q) (i : Nat) (S T : ByteArray) (hi : i < xs.length) (hk : xs[i].kind = 1) (hd : xs[i].data = []) (l : List Atr) (hl : setA xs[i].attrs ⟨S.toList, T.toList⟩ = l) (hs2 : soundA l = true) (hz : ∀ x ∈ xs[i].attrs, x.name.length ≤ 1000000000 ∧ x.value.length ≤ 1000000000) (hS : S.size ≤ 1000000000) (hT : T.size ≤ 1000000000) :
    Calls Try.prog 9 #[.pointer (some ⟨p, 0, none⟩), .int .i64 (i : Int), .string S, .string T] w fun e w' => e = .returned (.int .u16 0) ∧ Dq L K w' p (xs.set i { xs[i] with attrs := l }) Q ∧ Kept K w w' := by
  obtain ⟨M, R, G, hK, hdd⟩ := h
  obtain ⟨rk, hI⟩ := hK.inv
  have hin : i < M.n := by rw [hdd.n]; exact hi
  have hle : M.n ≤ 100000 := Nat.le_trans hK.le hK.lim
  have ei := hdd.nd i hi
  have hv := (hI.core.el i hin (by rw [ei]; exact hk)).1
  rw [ei] at hv
  have hs : soundL [⟨0, 1, xs[i].name, l, []⟩] = true := by
    have := soundN_el (x := { xs[i] with attrs := l }) hk hd hv hs2
    unfold Nd.mk' at this
    rw [hk] at this
    rw [soundN_o 1 (by decide) (by decide)] at this
    rw [hd] at this
    exact this
  refine (set_in K p i M S T w hK.d hin (by omega) (by rw [ei]; exact hk) (by have := hI.good.few i hin; omega) (fun x hx => hz x (by rw [ei] at hx; exact hx)) hS hT).mono ?_
  rintro e w' ⟨⟨_, rfl, hX⟩ | ⟨hn, _, _⟩, hkk⟩
  · rw [ei, hl] at hX
    refine ⟨rfl, ⟨_, _, _, ⟨hX, ⟨rk, hI.setN hin (by rw [ei]) (by rw [ei]) (by rw [ei]) (by rw [ei]) (by rw [ei]) (fun _ => hs2) (fun hn => absurd hk hn) (fun _ => soundN_el (x := { xs[i] with attrs := l }) hk hd hv hs2)⟩, hK.lim, hK.le⟩, hdd.lim, by rw [List.length_set]; exact hdd.n, fun k hk => ?_, hdd.r, hdd.g⟩, hkk⟩
    rw [List.length_set] at hk
    by_cases c : k = i
    · subst c; rw [setN_same, List.getElem_set_self]
    · rw [setN_ne _ _ c, List.getElem_set_ne (fun e => c e.symm)]; exact hdd.nd k hk
  · rw [ei, hl, hs] at hn; cases hn
end
end Go.Proofs.Ytojbjiopilkbgaa
