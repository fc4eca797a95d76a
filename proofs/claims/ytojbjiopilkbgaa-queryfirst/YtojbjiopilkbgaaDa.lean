/-
  A document told by its nodes and rows, with any limit; what is written of it.
-/
import Derived.Test.YtojbjiopilkbgaaQ2
namespace Go.Proofs.Ytojbjiopilkbgaa
open Go.RowKit
set_option linter.unusedVariables false
set_option maxRecDepth 100000
set_option maxHeartbeats 4000000
structure Dl (L : Nat) (M : Dm) (R G : Nat → List Nat) (xs : List Nd) (Q : Nat → List Nat) : Prop where
  lim : M.limit = L
  n : M.n = xs.length
  nd : ∀ k (h : k < xs.length), M.nd k = xs[k]
  r : R = Q
  g : G = fun _ => []
def Dq (L : Nat) (K : Nat → Prop) (w : World) (p : Nat) (xs : List Nd) (Q : Nat → List Nat) : Prop := ∃ M R G, Kn K w p M R G ∧ Dl L M R G xs Q
section
variable {L : Nat} {K : Nat → Prop} {w w' : World} {p : Nat} {xs : List Nd} {Q : Nat → List Nat} {M : Dm} {R G : Nat → List Nat} {rk : Nat → Nat}
theorem Dq.kept (h : Dq L K w p xs Q) (hk : Kept (fun k => k < w.heap.size) w w')  : Dq L K w' p xs Q := by
  obtain ⟨M, R, G, a, b⟩ := h
  exact ⟨M, R, G, a.kept hk, b⟩
theorem Dq.lt (h : Dq L K w p xs Q) : ∀ k, K k → k < w.heap.size := by
  obtain ⟨M, R, G, a, b⟩ := h
  exact a.d.lt
theorem Dq.start (hL1 : 1 ≤ L) (hL2 : L ≤ 100000) (hX : DX K w p (Dm.new L))  : Dq L K w p [frag0.new] (fun _ => []) :=
  ⟨_, _, _, Kn.new (w0 := w) hX hL1 hL2, rfl, rfl, fun k h => by
    have : k = 0 := by simp at h; omega
    subst this; rfl, rfl, rfl⟩
theorem Dq.makeA (h : Dq L K w p xs Q) (kd : Nat) (S D : ByteArray) (l : List Atr) (aa : Option Addr) (n ac : Nat) (r : Rest) (nm dt : List UInt8) (hS : S.toList = nm) (hD : D.toList = dt) (hln : l.length = n) (hn : n ≤ 1000) (ha : AtsAt (fun k => k < w.heap.size) w aa l) (hsz : ∀ x ∈ l, x.name.length ≤ 1000000000 ∧ x.value.length ≤ 1000000000) (hs : soundN ⟨kd, nm, dt, l⟩ = true) (ht : ¬ (kd = 1 ∧ nm = [116, 101, 109, 112, 108, 97, 116, 101])) (hq : Q xs.length = []) (hr : xs.length + 1 ≤ L) (h6 : kd = 6 → nm.length < 1000000) :
    Calls Try.prog 7 #[.pointer (some ⟨p, 0, none⟩), nodeV kd S D aa n ac r] w fun e w' => e = .returned (.tuple #[.int .i64 (xs.length : Int), .int .u16 0]) ∧ Dq L K w' p (xs ++ [(Mk.nd ⟨kd, nm, dt, l⟩).new]) Q ∧ Kept K w w' := by
  obtain ⟨M, R, G, hK, hd⟩ := h
  obtain ⟨rk, hI⟩ := hK.inv
  refine (make_any K p kd S D l aa n ac r w M hK.d (Nat.le_trans hK.le hK.lim) hK.lim hln (by omega) ha hsz).mono ?_
  rintro e w' ⟨hk, hM⟩
  rw [hS, hD] at hM
  have hroom : M.n + 1 ≤ M.limit := by rw [hd.n, hd.lim]; exact hr
  cases hM with
  | arg h1 => rw [hs] at h1; cases h1
  | full h1 h2 h3 h4 => rw [if_neg ht] at h2; omega
  | two h1 h2 => exact absurd h2 ht
  | one h1 h2 h3 he hX =>
    have hm := soundN_ok hs
    refine ⟨by rw [he, hd.n], ⟨_, _, _, ⟨hX, ⟨rk, hI.add _ hm hm.few hs ht h6⟩, hK.lim, hroom⟩, hd.lim, ?_, fun k hk => ?_, by rw [hd.r, hd.n, updR_self _ _ _ hq], by rw [hd.g]; exact updR_self _ _ _ rfl⟩, hk⟩
    · rw [List.length_append]; exact congrArg (· + 1) hd.n
    · show (if k = M.n then _ else M.nd k) = _
      rw [List.length_append, List.length_singleton] at hk
      by_cases c : k = xs.length
      · rw [if_pos (c.trans hd.n.symm)]
        subst c
        rw [List.getElem_append_right (Nat.le_refl _)]
        simp
      · rw [if_neg (by rw [hd.n]; exact c), List.getElem_append_left (by omega)]
        exact hd.nd k (by omega)
theorem Dq.root (h : Dq L K w p xs Q) (host : Nat) (f : Fg) (hh : host < xs.length) (hk : xs[host].kind = 1) (hs : xs[host].shadow = -1) (hq : Q xs.length = []) (hr : xs.length + 1 ≤ L) :
    Calls Try.prog 10 #[.pointer (some ⟨p, 0, none⟩), .int .i64 (host : Int), fgV f] w fun e w' => e = .returned (.tuple #[.int .i64 (xs.length : Int), .int .u16 0]) ∧ Dq L K w' p (xs.set host { xs[host] with shadow := (xs.length : Int) } ++ [rtN f host]) Q ∧ Kept K w w' := by
  obtain ⟨M, R, G, hK, hd⟩ := h
  refine (hK.root f (by rw [hd.n]; exact hh) (by rw [hd.nd host hh]; exact hk) (by rw [hd.nd host hh]; exact hs) (by rw [hd.n, hd.lim]; exact hr)).mono ?_
  rintro e w' ⟨rfl, hK', hkk⟩
  refine ⟨by rw [hd.n], ⟨_, _, _, hK', hd.lim, ?_, fun k hk => ?_, by rw [hd.r, hd.n, updR_self _ _ _ hq], by rw [hd.g]; exact updR_self _ _ _ rfl⟩, hkk⟩
  · rw [List.length_append, List.length_set]; exact congrArg (· + 1) hd.n
  · rw [List.length_append, List.length_singleton, List.length_set] at hk
    have hne : host ≠ M.n := by rw [hd.n]; omega
    by_cases c : k = xs.length
    · have : (M.addR host f).nd k = rtN f host := by
        unfold Dm.addR
        rw [setN_ne _ _ (by rw [c]; omega), show k = M.n from c.trans hd.n.symm, setN_same]
        show ({ (if M.n = M.n then (shN f).new else M.nd M.n) with host := (host : Int) } : Nd) = _
        rw [if_pos rfl]; rfl
      rw [this]
      subst c
      rw [List.getElem_append_right (by rw [List.length_set]; exact Nat.le_refl _)]
      simp
    · rw [List.getElem_append_left (by rw [List.length_set]; omega)]
      by_cases c2 : k = host
      · subst c2
        unfold Dm.addR
        rw [setN_same, setN_ne _ _ hne, List.getElem_set_self]
        show ({ (if k = M.n then (shN f).new else M.nd k) with shadow := (M.n : Int) } : Nd) = _
        rw [if_neg hne, hd.nd k hh, hd.n]
      · unfold Dm.addR
        rw [setN_ne _ _ c2, setN_ne _ _ (by rw [hd.n]; exact c), List.getElem_set_ne (fun e => c2 e.symm)]
        show (if k = M.n then (shN f).new else M.nd k) = _
        rw [if_neg (by rw [hd.n]; exact c)]
        exact hd.nd k (by omega)
theorem Dl.free (hd : Dl L M R G xs Q) (hI : Inv M R G rk) {i : Nat} (hi : i < xs.length) (hf : ∀ u, u < xs.length → i ∉ Q u) : (M.pl i).up = -1 := by
  rcases hI.good.wf.inn i (by rw [hd.n]; exact hi) with e | ⟨u, hu, e, hm⟩
  · exact e
  · rw [hd.r] at hm; exact absurd hm (hf u (by rw [← hd.n]; exact hu))
theorem Dl.up (hd : Dl L M R G xs Q) (hI : Inv M R G rk) {i u : Nat} (hu : u < xs.length) (hm : i ∈ Q u) : (M.pl i).up = (u : Int) :=
  hI.good.wf.up (by rw [hd.n]; exact hu) (by rw [hd.r]; exact hm)
theorem Dq.ins (h : Dq L K w p xs Q) (up i : Nat) (hu : up < xs.length) (hi : i < xs.length) (hui : up ≠ i) (hh : holdB xs[up] = true) (h0 : i ≠ 0) (hk5 : xs[i].kind ≠ 5) (hk4 : xs[i].kind ≠ 4) (hf : ∀ u, u < xs.length → i ∉ Q u) (hq : Q i = []) (hho : ∀ k (h : k < xs.length), xs[k].host ≠ (i : Int)) :
    Calls Try.prog 8 #[.pointer (some ⟨p, 0, none⟩), .int .i64 (up : Int), .int .i64 (i : Int), .int .i64 (-1)] w fun e w' => e = .returned (.int .u16 0) ∧ Dq L K w' p xs (updR Q up (Q up ++ [i])) ∧ Kept K w w' := by
  obtain ⟨M, R, G, hK, hd⟩ := h
  obtain ⟨rk, hI⟩ := hK.inv
  have hfree := hd.free hI hi hf
  have hF : Fits M up i (-1) := by
    refine ⟨by rw [hd.nd up hu]; exact hh, ?_, fun hw => ?_, .inl rfl⟩
    · unfold moveB
      rw [hd.nd i hi]
      simp [h0, hk5, hk4]
    · refine hui (wi_leaf hI.good.acy (fun k hk e => ?_) hw (by rw [hd.n]; exact hu))
      unfold parI at e
      by_cases c : (M.pl k).up = -1
      · rw [if_pos c, hd.nd k (by rw [← hd.n]; exact hk)] at e
        exact hho k _ e
      · rw [if_neg c] at e
        rcases hI.good.wf.inn k hk with e' | ⟨u, hu', e', hm⟩
        · exact c e'
        · have : u = i := by omega
          subst this
          rw [hd.r, hq] at hm
          cases hm
  refine (hK.ins (-1) (by rw [hd.n]; exact hu) (by rw [hd.n]; exact hi) (.inl rfl) hF).mono ?_
  rintro e w' ⟨rfl, hK', hkk⟩
  refine ⟨rfl, ⟨_, _, _, hK', hd.lim, hd.n, hd.nd, ?_, hd.g⟩, hkk⟩
  unfold putDR
  rw [if_neg (by rw [hd.nd i hi]; exact hk4), if_neg (by omega), putR_free hfree, hd.r]
end
end Go.Proofs.Ytojbjiopilkbgaa
