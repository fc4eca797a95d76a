/-
  A document that is made call by call, told by its nodes and its rows.
-/
import Derived.Test.YtljnjdckhkglfaaP25
import Derived.Test.YtljnjdckhkglfaaP17
import Derived.Test.YtljnjdckhkglfaaP15
import Derived.Test.YtljnjdckhkglfaaP13
namespace Go.Proofs.Ytljnjdckhkglfaa
open Go.RowKit
set_option linter.unusedVariables false
/-- What is known of a document: its nodes, its rows; nothing is given to a slot. -/
structure Ds (M : Dm) (R G : Nat → List Nat) (xs : List Nd) (Q : Nat → List Nat) : Prop where
  lim : M.limit = 300
  n : M.n = xs.length
  nd : ∀ k (h : k < xs.length), M.nd k = xs[k]
  r : R = Q
  g : G = fun _ => []
def Dst (K : Nat → Prop) (w : World) (p : Nat) (xs : List Nd) (Q : Nat → List Nat) : Prop := ∃ M R G, Kn K w p M R G ∧ Ds M R G xs Q
section
variable {K : Nat → Prop} {w w' : World} {p : Nat} {xs : List Nd} {Q : Nat → List Nat} {M : Dm} {R G : Nat → List Nat} {rk : Nat → Nat}
theorem Dst.kept (h : Dst K w p xs Q) (hk : Kept (fun k => k < w.heap.size) w w') : Dst K w' p xs Q := by
  obtain ⟨M, R, G, a, b⟩ := h
  exact ⟨M, R, G, a.kept hk, b⟩
theorem Dst.lt (h : Dst K w p xs Q) : ∀ k, K k → k < w.heap.size := by
  obtain ⟨M, R, G, a, b⟩ := h
  exact a.d.lt
theorem Dst.start (hX : DX K w p (Dm.new 300)) : Dst K w p [frag0.new] (fun _ => []) :=
  ⟨_, _, _, Kn.new (w0 := w) hX (by decide) (by decide), rfl, rfl, fun k h => by
    have : k = 0 := by simp at h; omega
    subst this; rfl, rfl, rfl⟩
theorem Dst.rd (h : Dst K w p xs Q) : ∃ M R G rk, Rd K w p M R G rk ∧ Ds M R G xs Q := by
  obtain ⟨M, R, G, a, b⟩ := h
  obtain ⟨rk, hR⟩ := a.rd
  exact ⟨M, R, G, rk, hR, b⟩
theorem Dst.make (h : Dst K w p xs Q) (kz : Int) (kd : Nat) (S D : ByteArray) (nm dt : List UInt8) (hkz : kz = (kd : Int)) (hS : S.toList = nm) (hD : D.toList = dt) (hs : soundN ⟨kd, nm, dt, []⟩ = true) (ht : ¬ (kd = 1 ∧ nm = [116, 101, 109, 112, 108, 97, 116, 101])) (hq : Q xs.length = []) (hr : xs.length + 1 ≤ 300) :
    Calls Try.prog 16 #[.pointer (some ⟨p, 0, none⟩), plainV kz S D] w fun e w' => e = .returned (.tuple #[.int .i64 (xs.length : Int), .int .u16 0]) ∧ Dst K w' p (xs ++ [(Mk.nd ⟨kd, nm, dt, []⟩).new]) Q ∧ Kept K w w' := by
  obtain ⟨M, R, G, hK, hd⟩ := h
  refine (hK.make kz kd S D nm dt hkz hS hD hs ht (by rw [hd.n, hd.lim]; exact hr)).mono ?_
  rintro e w' ⟨rfl, hK', hk⟩
  refine ⟨by rw [hd.n], ⟨_, _, _, hK', hd.lim, ?_, fun k hk => ?_, by rw [hd.r, hd.n, updR_self _ _ _ hq], by rw [hd.g]; exact updR_self _ _ _ rfl⟩, hk⟩
  · rw [List.length_append]; exact congrArg (· + 1) hd.n
  · show (if k = M.n then _ else M.nd k) = _
    rw [List.length_append, List.length_singleton] at hk
    by_cases c : k = xs.length
    · rw [if_pos (c.trans hd.n.symm)]
      subst c
      rw [List.getElem_append_right (Nat.le_refl _)]
      simp
    · rw [if_neg (by rw [hd.n]; exact c), List.getElem_append_left (by omega)]
      exact hd.nd k (by omega)
/-- A node that is the root of another one. -/
def rtN (f : Fg) (host : Nat) : Nd := ⟨5, [], [], [], f, -1, (host : Int), -1⟩
theorem Dst.root (h : Dst K w p xs Q) (host : Nat) (f : Fg) (hh : host < xs.length) (hk : xs[host].kind = 1) (hs : xs[host].shadow = -1) (hq : Q xs.length = []) (hr : xs.length + 1 ≤ 300) :
    Calls Try.prog 22 #[.pointer (some ⟨p, 0, none⟩), .int .i64 (host : Int), fgV f] w fun e w' => e = .returned (.tuple #[.int .i64 (xs.length : Int), .int .u16 0]) ∧ Dst K w' p (xs.set host { xs[host] with shadow := (xs.length : Int) } ++ [rtN f host]) Q ∧ Kept K w w' := by
  obtain ⟨M, R, G, hK, hd⟩ := h
  refine (hK.root f (by rw [hd.n]; exact hh) (by rw [hd.nd host hh]; exact hk) (by rw [hd.nd host hh]; exact hs) (by rw [hd.n, hd.lim]; exact hr)).mono ?_
  rintro e w' ⟨rfl, hK', hkk⟩
  refine ⟨by rw [hd.n], ⟨_, _, _, hK', hd.lim, ?_, fun k hk => ?_, by rw [hd.r, hd.n, updR_self _ _ _ hq], by rw [hd.g]; exact updR_self _ _ _ rfl⟩, hkk⟩
  · rw [List.length_append, List.length_set]; exact congrArg (· + 1) hd.n
  · rw [List.length_append, List.length_singleton, List.length_set] at hk
    have hne : host ≠ M.n := by rw [hd.n]; omega
    by_cases c : k = xs.length
    · have : (M.addR host f).nd k = rtN f host := by
        unfold Dm.addR
        rw [setN_ne _ _ (by rw [c]; omega), show k = M.n from c.trans hd.n.symm, setN_same]
        show ({ (if M.n = M.n then (shN f).new else M.nd M.n) with host := (host : Int) } : Nd) = _
        rw [if_pos rfl]; rfl
      rw [this]
      subst c
      rw [List.getElem_append_right (by rw [List.length_set]; exact Nat.le_refl _)]
      simp
    · rw [List.getElem_append_left (by rw [List.length_set]; omega)]
      by_cases c2 : k = host
      · subst c2
        unfold Dm.addR
        rw [setN_same, setN_ne _ _ hne, List.getElem_set_self]
        show ({ (if k = M.n then (shN f).new else M.nd k) with shadow := (M.n : Int) } : Nd) = _
        rw [if_neg hne, hd.nd k hh, hd.n]
      · unfold Dm.addR
        rw [setN_ne _ _ c2, setN_ne _ _ (by rw [hd.n]; exact c), List.getElem_set_ne (fun e => c2 e.symm)]
        show (if k = M.n then (shN f).new else M.nd k) = _
        rw [if_neg (by rw [hd.n]; exact c)]
        exact hd.nd k (by omega)
theorem Ds.free (hd : Ds M R G xs Q) (hI : Inv M R G rk) {i : Nat} (hi : i < xs.length) (hf : ∀ u, u < xs.length → i ∉ Q u) : (M.pl i).up = -1 := by
  rcases hI.good.wf.inn i (by rw [hd.n]; exact hi) with e | ⟨u, hu, e, hm⟩
  · exact e
  · rw [hd.r] at hm; exact absurd hm (hf u (by rw [← hd.n]; exact hu))
theorem Ds.up (hd : Ds M R G xs Q) (hI : Inv M R G rk) {i u : Nat} (hu : u < xs.length) (hm : i ∈ Q u) : (M.pl i).up = (u : Int) :=
  hI.good.wf.up (by rw [hd.n]; exact hu) (by rw [hd.r]; exact hm)
theorem wi_leaf {M : Dm} {rk : Nat → Nat} (ha : Acy M rk) {i k : Nat} (hp : ∀ k, k < M.n → parI M k ≠ (i : Int)) (hw : Wi M i k) : k < M.n → k = i := by
  induction hw with
  | here => intro _; rfl
  | @up k m e _ ih =>
    intro hk
    rcases ha k hk with e' | ⟨m', hm', e', _⟩
    · omega
    · have : m' = m := by omega
      subst this
      have := ih hm'
      subst this
      exact absurd e (hp k hk)
theorem Dst.ins (h : Dst K w p xs Q) (up i : Nat) (hu : up < xs.length) (hi : i < xs.length) (hui : up ≠ i) (hh : holdB xs[up] = true) (h0 : i ≠ 0) (hk5 : xs[i].kind ≠ 5) (hk4 : xs[i].kind ≠ 4) (hf : ∀ u, u < xs.length → i ∉ Q u) (hq : Q i = []) (hho : ∀ k (h : k < xs.length), xs[k].host ≠ (i : Int)) :
    Calls Try.prog 17 #[.pointer (some ⟨p, 0, none⟩), .int .i64 (up : Int), .int .i64 (i : Int), .int .i64 (-1)] w fun e w' => e = .returned (.int .u16 0) ∧ Dst K w' p xs (updR Q up (Q up ++ [i])) ∧ Kept K w w' := by
  obtain ⟨M, R, G, hK, hd⟩ := h
  obtain ⟨rk, hI⟩ := hK.inv
  have hfree := hd.free hI hi hf
  have hF : Fits M up i (-1) := by
    refine ⟨by rw [hd.nd up hu]; exact hh, ?_, fun hw => ?_, .inl rfl⟩
    · unfold moveB
      rw [hd.nd i hi]
      simp [h0, hk5, hk4]
    · refine hui (wi_leaf hI.good.acy (fun k hk e => ?_) hw (by rw [hd.n]; exact hu))
      unfold parI at e
      by_cases c : (M.pl k).up = -1
      · rw [if_pos c, hd.nd k (by rw [← hd.n]; exact hk)] at e
        exact hho k _ e
      · rw [if_neg c] at e
        rcases hI.good.wf.inn k hk with e' | ⟨u, hu', e', hm⟩
        · exact c e'
        · have : u = i := by omega
          subst this
          rw [hd.r, hq] at hm
          cases hm
  refine (hK.ins (-1) (by rw [hd.n]; exact hu) (by rw [hd.n]; exact hi) (.inl rfl) hF).mono ?_
  rintro e w' ⟨rfl, hK', hkk⟩
  refine ⟨rfl, ⟨_, _, _, hK', hd.lim, hd.n, hd.nd, ?_, hd.g⟩, hkk⟩
  unfold putDR
  rw [if_neg (by rw [hd.nd i hi]; exact hk4), if_neg (by omega), putR_free hfree, hd.r]
theorem Dst.set (h : Dst K w p xs Q) (i : Nat) (S T : ByteArray) (hi : i < xs.length) (hk : xs[i].kind = 1) (l : List Atr) (hl : setA xs[i].attrs ⟨S.toList, T.toList⟩ = l) (hs : soundL [⟨0, 1, xs[i].name, l, []⟩] = true) (hs2 : soundA l = true) (hz : ∀ x ∈ xs[i].attrs, x.name.length ≤ 1000000000 ∧ x.value.length ≤ 1000000000) (hS : S.size ≤ 1000000000) (hT : T.size ≤ 1000000000) :
    Calls Try.prog 14 #[.pointer (some ⟨p, 0, none⟩), .int .i64 (i : Int), .string S, .string T] w fun e w' => e = .returned (.int .u16 0) ∧ Dst K w' p (xs.set i { xs[i] with attrs := l }) Q ∧ Kept K w w' := by
  obtain ⟨M, R, G, hK, hd⟩ := h
  obtain ⟨rk, hI⟩ := hK.inv
  have hin : i < M.n := by rw [hd.n]; exact hi
  have hle : M.n ≤ 100000 := Nat.le_trans hK.le hK.lim
  have ei := hd.nd i hi
  refine (set_in K p i M S T w hK.d hin (by omega) (by rw [ei]; exact hk) (by have := hI.good.few i hin; omega) (fun x hx => hz x (by rw [ei] at hx; exact hx)) hS hT).mono ?_
  rintro e w' ⟨⟨_, rfl, hX⟩ | ⟨hn, _, _⟩, hkk⟩
  · rw [ei, hl] at hX
    refine ⟨rfl, ⟨_, _, _, ⟨hX, ⟨rk, hI.setN hin (by rw [ei]) (by rw [ei]) (by rw [ei]) (by rw [ei]) (by rw [ei]) (fun _ => hs2) (fun hn => absurd hk hn)⟩, hK.lim, hK.le⟩, hd.lim, by rw [List.length_set]; exact hd.n, fun k hk => ?_, hd.r, hd.g⟩, hkk⟩
    rw [List.length_set] at hk
    by_cases c : k = i
    · subst c; rw [setN_same, List.getElem_set_self]
    · rw [setN_ne _ _ c, List.getElem_set_ne (fun e => c e.symm)]; exact hd.nd k hk
  · rw [ei, hl, hs] at hn; cases hn
/-- A row of nodes that have none. -/
theorem tr_leaf {n : Nat} {F : Nat → List Nat} {rk : Nat → Nat} (h : Falls n F rk) {j : Nat} (hj : j < n) (e : F j = []) : tr n F j = [j] := by
  rw [tr_eq h hj, e]; rfl
theorem flat_leaf {n : Nat} {F : Nat → List Nat} {rk : Nat → Nat} (h : Falls n F rk) : ∀ (l : List Nat), (∀ j ∈ l, j < n ∧ F j = []) → l.flatMap (tr n F) = l
  | [], _ => rfl
  | a :: l, hl => by
    rw [List.flatMap_cons, tr_leaf h (hl a (List.mem_cons_self ..)).1 (hl a (List.mem_cons_self ..)).2, flat_leaf h l fun j hj => hl j (List.mem_cons_of_mem _ hj)]
    rfl
theorem tr_row {n : Nat} {F : Nat → List Nat} {rk : Nat → Nat} (h : Falls n F rk) {s : Nat} (hs : s < n) (hl : ∀ j ∈ F s, j < n ∧ F j = []) : tr n F s = s :: F s := by
  rw [tr_eq h hs, flat_leaf h _ hl]
/-- In which slot one is shown that is in a host. -/
theorem Ds.find (hd : Ds M R G xs Q) (hI : Inv M R G rk) {k u s : Nat} (hk : k < xs.length) (hu : u < xs.length) (hs : s < xs.length) (hm : k ∈ Q u) (hsh : xs[u].shadow = (s : Int)) (hb : xs[s].fl.b = false) (hw : showB xs[k] = true) :
    findZ M R k = fstO (fun j => slNm (atV slotN xs[k].attrs) (M.nd j)) (tr M.n Q s) := by
  have e := hd.up hI hu hm
  unfold findZ
  rw [e, Int.toNat_natCast, hd.nd k hk, hd.nd u hu, hsh, Int.toNat_natCast, hd.nd s hs, hb, hw, if_neg (by simp), if_neg (by simp), hd.r]
  rfl
/-- What is shown in a slot of a root. -/
theorem Ds.asg (hd : Ds M R G xs Q) (hI : Inv M R G rk) {i s o : Nat} (hi : i < xs.length) (hs : s < xs.length) (hsl : isSl xs[i] = true) (ho : ofZ M (i : Int) = (s : Int)) (hb : xs[s].fl.b = false) (hh : xs[s].host = (o : Int)) :
    asgL M R G i = if fstO (fun j => slNm (atV nameN xs[i].attrs) (M.nd j)) (tr M.n Q s) = (i : Int) then (Q o).filter fun k => asksB (atV nameN xs[i].attrs) (M.nd k) else [] := by
  unfold asgL
  rw [hd.nd i hi, hsl, ho, if_neg (by simp), Int.toNat_natCast]
  unfold shwL
  rw [hd.nd s hs, hb, if_neg (by simp), hh, Int.toNat_natCast, hd.nd i hi, hd.r]
  rfl
theorem Ds.of (hd : Ds M R G xs Q) (hI : Inv M R G rk) {i s : Nat} (hi : i < xs.length) (hs : s < xs.length) (hm : i ∈ Q s) (h5 : xs[s].kind = 5) (hf : ∀ u, u < xs.length → s ∉ Q u) : ofZ M (i : Int) = (s : Int) :=
  ofZ_eq (by rw [hd.n]; exact hi) (.yes (.up (hd.up hI hs hm) (.here (hd.free hI hs hf))) (by rw [hd.nd s hs]; exact h5))
end
end Go.Proofs.Ytljnjdckhkglfaa
