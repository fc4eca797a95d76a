/-
  A document that is made call by call, told by its nodes and its rows; nodes within one another, once each.
-/
import Derived.Test.YtojbjiopilkbgaaP15
import Derived.Test.YtojbjiopilkbgaaP12
import Derived.Test.YtojbjiopilkbgaaP11
import Derived.Test.YtojbjiopilkbgaaP13
import Derived.Test.YtojbjiopilkbgaaP10
namespace Go.Proofs.Ytojbjiopilkbgaa
open Go.RowKit
set_option linter.unusedVariables false
set_option maxRecDepth 100000
set_option maxHeartbeats 8000000
section
variable {M : Dm} {R G : Nat -> List Nat} {rk : Nat -> Nat}
theorem Good.kid (h : Good M R rk) {i k : Nat} (hi : i < M.n) (hk : k ∈ R i) : k < M.n /\ (M.pl k).up = (i : Int) /\ rk i < rk k := by
 have hl := h.wf.lt i hi k hk
 have hu := h.wf.up hi hk
 refine ⟨hl, hu, ?_⟩
 have hp : parI M k = (i : Int) := by unfold parI; rw [if_neg (by omega)]; exact hu
 rcases h.acy k hl with e | ⟨m, _, e, hr⟩
 ·omega
 ·have : m = i := by omega
  exact this ▸ hr
theorem Good.falls (h : Good M R rk) : Falls M.n R rk := fun i hi k hk => ⟨(h.kid hi hk).1, (h.kid hi hk).2.2⟩
theorem Good.rk_up (h : Good M R rk) {k u : Nat} (hk : k < M.n) (hu : (M.pl k).up = (u : Int)) : u < M.n /\ rk u < rk k := by
 rcases h.acy k hk with e | ⟨m, hm, e, hr⟩
 ·unfold parI at e; rw [if_neg (by omega)] at e; omega
 ·unfold parI at e
  rw [if_neg (by omega)] at e
  have : m = u := by omega
  exact this ▸ ⟨hm, hr⟩
def fwd (M : Dm) (R : Nat -> List Nat) (i : Nat) : List Nat := if (M.nd i).shadow = -1 then R i else (M.nd i).shadow.toNat :: R i
theorem Inv.shadow (h : Inv M R G rk) {i s : Nat} (hi : i < M.n) (hs : (M.nd i).shadow = (s : Int)) : s < M.n /\ (M.nd s).kind = 5 /\ (M.nd s).host = (i : Int) /\ (M.pl s).up = -1 /\ rk i < rk s /\ (M.nd i).kind = 1 := by
 rcases h.core.shad i hi with e | ⟨k, hk, e, h1, h2, h3⟩
 ·omega
 ·have : k = s := by omega
  subst this
  have hup : (M.pl k).up = -1 := by
   rcases h.core.host k hk with ⟨e', _⟩ | ⟨u, _, _, hu, _⟩
   ·omega
   ·exact hu
  refine ⟨hk, h2, h3, hup, ?_, h1⟩
  rcases h.good.acy k hk with e' | ⟨m, _, e', hr⟩
  ·unfold parI at e'; rw [if_pos hup] at e'; omega
  ·unfold parI at e'
   rw [if_pos hup] at e'
   have : m = i := by omega
   exact this ▸ hr
theorem Inv.falls (h : Inv M R G rk) : Falls M.n (fwd M R) rk := fun i hi k hk => by
 unfold fwd at hk
 by_cases c : (M.nd i).shadow = -1
 ·rw [if_pos c] at hk
  exact h.good.falls i hi k hk
 ·rw [if_neg c] at hk
  rcases List.mem_cons.1 hk with rfl | hk
  ·rcases h.core.shad i hi with e | ⟨s, hs, e, _⟩
   ·exact absurd e c
   ·rw [e, Int.toNat_natCast]
    have := h.shadow hi e
    exact ⟨this.1, this.2.2.2.2.1⟩
  ·exact h.good.falls i hi k hk
end
theorem nodup_le : ∀ (n : Nat) (l : List Nat), l.Nodup -> (∀ i ∈ l, i < n) -> l.length <= n := by
 intro n
 induction n with
 | zero =>
  intro l _ hl
  cases l with
  | nil => exact Nat.le_refl _
  | cons x r => exact absurd (hl x (List.mem_cons_self ..)) (Nat.not_lt_zero _)
 | succ n ih =>
  intro l hn hl
  have h1 := ih (l.erase n) (hn.erase n) (fun i hi => by
   have a := hl i (List.mem_of_mem_erase hi)
   have b : i ≠ n := fun e => by
    subst e
    exact (List.Nodup.not_mem_erase hn) hi
   omega)
  have h2 : l.length <= (l.erase n).length + 1 := by
   by_cases hm : n ∈ l
   ·rw [List.length_erase_of_mem hm]; omega
   ·rw [List.erase_of_not_mem hm]; omega
  omega
inductive Up (n : Nat) (F : Nat -> List Nat) (a : Nat) : Nat -> Prop
 | here : Up n F a a
 | up {x y : Nat} : y < n -> x ∈ F y -> Up n F a y -> Up n F a x
structure Only (n : Nat) (F : Nat -> List Nat) (rk : Nat -> Nat) : Prop where
 falls : Falls n F rk
 one : ∀ i j k, i < n -> j < n -> k ∈ F i -> k ∈ F j -> i = j
 nd : ∀ i, i < n -> (F i).Nodup
section
variable {n : Nat} {F : Nat -> List Nat} {rk : Nat -> Nat}
theorem Up.low (h : Falls n F rk) {a x : Nat} (hu : Up n F a x) : a = x \/ rk a < rk x := by
 induction hu with
 | here => exact .inl rfl
 | up hy hm _ ih =>
  have := (h _ hy _ hm).2
  rcases ih with rfl | ih
  ·exact .inr this
  ·exact .inr (Nat.lt_trans ih this)
theorem Up.trans {a b x : Nat} (h : Up n F a b) (k : Up n F b x) : Up n F a x := by
 induction k with
 | here => exact h
 | up hy hm _ ih => exact .up hy hm ih
theorem Up.lin (h : Only n F rk) {a b x : Nat} (ha : Up n F a x) : Up n F b x -> Up n F a b \/ Up n F b a := by
 induction ha with
 | here => exact fun hb => .inr hb
 | @up x y hy hm h1 ih =>
  intro hb
  cases hb with
  | here => exact .inl (.up hy hm h1)
  | @up _ z hz hm' h2 =>
   have := h.one y z x hy hz hm hm'
   subst this
   exact ih h2
theorem mem_trF (h : Falls n F rk) : ∀ (f i : Nat), i < n -> ∀ x ∈ trF F f i, Up n F i x
 | 0, i, hi, x, hx => by
  rcases List.mem_singleton.1 hx with rfl
  exact .here
 | f + 1, i, hi, x, hx => by
  rcases List.mem_cons.1 hx with rfl | hx
  ·exact .here
  ·obtain ⟨m, hm, hx⟩ := List.mem_flatMap.1 hx
   exact Up.trans (.up hi hm .here) (mem_trF h f m (h i hi m hm).1 x hx)
theorem mem_tr (h : Falls n F rk) {i x : Nat} (hi : i < n) : x ∈ tr n F i ↔ Up n F i x := by
 refine ⟨mem_trF h n i hi x, fun hu => ?_⟩
 induction hu with
 | here => rw [tr_eq h hi]; exact List.mem_cons_self ..
 | @up x y hy hm _ ih =>
  have key : ∀ (f i : Nat), i < n -> dn n rk i < f -> y ∈ tr n F i -> x ∈ tr n F i := by
   intro f
   induction f with
   | zero => exact fun i _ h => absurd h (Nat.not_lt_zero _)
   | succ f ihf =>
    intro i hi hf hyi
    rw [tr_eq h hi] at hyi ⊢
    rcases List.mem_cons.1 hyi with rfl | hyi
    ·refine List.mem_cons_of_mem _ (List.mem_flatMap.2 ⟨x, hm, ?_⟩)
     rw [tr_eq h (h y hy x hm).1]
     exact List.mem_cons_self ..
    ·obtain ⟨m, hmi, hy'⟩ := List.mem_flatMap.1 hyi
     have hmn := h i hi m hmi
     exact List.mem_cons_of_mem _ (List.mem_flatMap.2 ⟨m, hmi, ihf m hmn.1 (by have := dn_lt hmn.1 hmn.2; omega) hy'⟩)
  exact key _ i hi (Nat.lt_succ_self _) ih
theorem nodup_flatMap {f : Nat -> List Nat} : ∀ {l : List Nat}, l.Nodup -> (∀ x ∈ l, (f x).Nodup) -> (∀ x ∈ l, ∀ y ∈ l, x ≠ y -> ∀ z, z ∈ f x -> z ∉ f y) -> (l.flatMap f).Nodup
 | [], _, _, _ => List.nodup_nil
 | x :: r, hn, hf, hd => by
  have hn' := List.nodup_cons.1 hn
  rw [List.flatMap_cons, List.nodup_append]
  refine ⟨hf x (List.mem_cons_self ..), nodup_flatMap hn'.2 (fun y hy => hf y (List.mem_cons_of_mem _ hy)) (fun a ha b hb => hd a (List.mem_cons_of_mem _ ha) b (List.mem_cons_of_mem _ hb)), fun a ha b hb e => ?_⟩
  subst e
  obtain ⟨y, hy, hz⟩ := List.mem_flatMap.1 hb
  exact hd x (List.mem_cons_self ..) y (List.mem_cons_of_mem _ hy) (fun e => hn'.1 (e ▸ hy)) a ha hz
theorem tr_nodup (h : Only n F rk) : ∀ (f i : Nat), i < n -> dn n rk i < f -> (tr n F i).Nodup
 | 0, i, _, hf => absurd hf (Nat.not_lt_zero _)
 | f + 1, i, hi, hf => by
  rw [tr_eq h.falls hi]
  refine List.nodup_cons.2 ⟨fun hm => ?_, nodup_flatMap (h.nd i hi) (fun x hx => ?_) (fun x hx y hy hxy z hz1 hz2 => ?_)⟩
  ·obtain ⟨k, hk, hm⟩ := List.mem_flatMap.1 hm
   have hkn := h.falls i hi k hk
   rcases ((mem_tr h.falls hkn.1).1 hm).low h.falls with e | e
   ·rw [e] at hkn; omega
   ·omega
  ·have hkn := h.falls i hi x hx
   exact tr_nodup h f x hkn.1 (by have := dn_lt hkn.1 hkn.2; omega)
  ·have hxn := h.falls i hi x hx
   have hyn := h.falls i hi y hy
   have u1 := (mem_tr h.falls hxn.1).1 hz1
   have u2 := (mem_tr h.falls hyn.1).1 hz2
   have no : ∀ a b, a ∈ F i -> b ∈ F i -> a ≠ b -> ¬ Up n F a b := fun a b ha hb hab hu => by
    cases hu with
    | here => exact hab rfl
    | @up _ c hc hm hu =>
     have := h.one i c b hi hc hb hm
     subst this
     have := (h.falls i hi a ha).2
     rcases hu.low h.falls with e | e
     ·rw [e] at this; omega
     ·omega
   rcases Up.lin h u1 u2 with q | q
   ·exact no x y hx hy hxy q
   ·exact no y x hy hx (fun e => hxy e.symm) q
theorem tr_len (h : Only n F rk) {i : Nat} (hi : i < n) : (tr n F i).length <= n :=
 nodup_le n _ (tr_nodup h _ i hi (Nat.lt_succ_self _)) (fun x hx => tr_lt h.falls n i hi x hx)
end

structure Kn (K : Nat -> Prop) (w : World) (p : Nat) (M : Dm) (R G : Nat -> List Nat) : Prop where
 d : DX K w p M
 inv : ∃ rk, Inv M R G rk
 lim : M.limit <= 100000
 le : M.n <= M.limit
section
variable {K : Nat -> Prop} {w w' : World} {p : Nat} {M : Dm} {R G : Nat -> List Nat}
theorem Kn.kept (h : Kn K w p M R G) (hk : Kept (fun k => k < w.heap.size) w w') : Kn K w' p M R G := ⟨h.d.kept hk, h.inv, h.lim, h.le⟩
theorem Kn.new {w0 : World} {limit : Nat} (hX : DX K w p (Dm.new limit)) (h1 : 1 <= limit) (h2 : limit <= 100000) : Kn K w p (Dm.new limit) (fun _ => []) (fun _ => []) := ⟨hX, ⟨_, Inv.new limit⟩, h2, h1⟩
theorem Kn.make (h : Kn K w p M R G) (kz : Int) (kd : Nat) (S D : ByteArray) (nm dt : List UInt8) (hkz : kz = (kd : Int)) (hS : S.toList = nm) (hD : D.toList = dt) (hs : soundN ⟨kd, nm, dt, []⟩ = true) (ht : ¬ (kd = 1 /\ nm = [116, 101, 109, 112, 108, 97, 116, 101])) (hr : M.n + 1 <= M.limit) (h6 : kd ≠ 6) :
  Calls Try.prog 7 #[.pointer (some ⟨p, 0, none⟩), plainV kz S D] w fun e w' => e = .returned (.tuple #[.int .i64 (M.n : Int), .int .u16 0]) /\ Kn K w' p (M.add (Mk.nd ⟨kd, nm, dt, []⟩)) (updR R M.n []) (updR G M.n []) /\ Kept K w w' := by
 obtain ⟨rk, hI⟩ := h.inv
 refine (make1 K p M w kz kd S D nm dt hkz hS hD h.d (Nat.le_trans h.le h.lim) h.lim hs ht hr).mono ?_
 rintro e w' ⟨rfl, hX, hk⟩
 have hm := soundN_ok hs
 exact ⟨rfl, ⟨hX, ⟨rk, hI.add _ hm hm.few hs ht (fun e => absurd e h6)⟩, h.lim, hr⟩, hk⟩
theorem Kn.root (h : Kn K w p M R G) {host : Nat} (f : Fg) (hh : host < M.n) (hk : (M.nd host).kind = 1) (hs : (M.nd host).shadow = -1) (hr : M.n + 1 <= M.limit) :
  Calls Try.prog 10 #[.pointer (some ⟨p, 0, none⟩), .int .i64 (host : Int), fgV f] w fun e w' => e = .returned (.tuple #[.int .i64 (M.n : Int), .int .u16 0]) /\ Kn K w' p (M.addR host f) (updR R M.n []) (updR G M.n []) /\ Kept K w w' := by
 obtain ⟨rk, hI⟩ := h.inv
 refine (root_in K p host M f w h.d hh (Nat.le_trans h.le h.lim) h.lim).mono ?_
 rintro e w' ⟨hK, hR⟩
 cases hR with
 | host a _ _ => exact absurd hk a
 | twice _ a _ _ => exact absurd hs a
 | full _ _ a _ _ => omega
 | made _ _ _ e hX => exact ⟨e, ⟨hX, hI.addR f hh hk hs, h.lim, hr⟩, hK⟩
theorem Kn.ins (h : Kn K w p M R G) {up i : Nat} (bef : Int) (hu : up < M.n) (hi : i < M.n) (hb : bef = -1 \/ ∃ m : Nat, m < M.n /\ bef = (m : Int)) (hF : Fits M up i bef) :
  Calls Try.prog 8 #[.pointer (some ⟨p, 0, none⟩), .int .i64 (up : Int), .int .i64 (i : Int), .int .i64 bef] w fun e w' => e = .returned (.int .u16 0) /\ Kn K w' p (M.setP (putD M R up i bef)) (putDR M R up i bef) G /\ Kept K w w' := by
 obtain ⟨rk, hI⟩ := h.inv
 refine (insert_in K p up i bef M R rk w h.d hI.good.wf hI.good.acy hu hi hb (by have := h.le; have := h.lim; omega)).mono ?_
 rintro e w' ⟨hK, ⟨_, hn, _⟩ | ⟨e, _, hX⟩⟩
 ·exact absurd hF hn
 ·exact ⟨e, ⟨hX, hI.ins hu hi hF, h.lim, h.le⟩, hK⟩
end

/-- What is known of a document: its nodes, its rows; nothing is given to a slot. -/
structure Ds (M : Dm) (R G : Nat → List Nat) (xs : List Nd) (Q : Nat → List Nat) : Prop where
  lim : M.limit = 300
  n : M.n = xs.length
  nd : ∀ k (h : k < xs.length), M.nd k = xs[k]
  r : R = Q
  g : G = fun _ => []
def Dst (K : Nat → Prop) (w : World) (p : Nat) (xs : List Nd) (Q : Nat → List Nat) : Prop := ∃ M R G, Kn K w p M R G ∧ Ds M R G xs Q
section
variable {K : Nat → Prop} {w w' : World} {p : Nat} {xs : List Nd} {Q : Nat → List Nat} {M : Dm} {R G : Nat → List Nat} {rk : Nat → Nat}
theorem Dst.kept (h : Dst K w p xs Q) (hk : Kept (fun k => k < w.heap.size) w w') : Dst K w' p xs Q := by
  obtain ⟨M, R, G, a, b⟩ := h
  exact ⟨M, R, G, a.kept hk, b⟩
theorem Dst.lt (h : Dst K w p xs Q) : ∀ k, K k → k < w.heap.size := by
  obtain ⟨M, R, G, a, b⟩ := h
  exact a.d.lt
theorem Dst.start (hX : DX K w p (Dm.new 300)) : Dst K w p [frag0.new] (fun _ => []) :=
  ⟨_, _, _, Kn.new (w0 := w) hX (by decide) (by decide), rfl, rfl, fun k h => by
    have : k = 0 := by simp at h; omega
    subst this; rfl, rfl, rfl⟩
theorem Dst.make (h : Dst K w p xs Q) (kz : Int) (kd : Nat) (S D : ByteArray) (nm dt : List UInt8) (hkz : kz = (kd : Int)) (hS : S.toList = nm) (hD : D.toList = dt) (hs : soundN ⟨kd, nm, dt, []⟩ = true) (ht : ¬ (kd = 1 ∧ nm = [116, 101, 109, 112, 108, 97, 116, 101])) (hq : Q xs.length = []) (hr : xs.length + 1 ≤ 300) (h6 : kd ≠ 6) :
    Calls Try.prog 7 #[.pointer (some ⟨p, 0, none⟩), plainV kz S D] w fun e w' => e = .returned (.tuple #[.int .i64 (xs.length : Int), .int .u16 0]) ∧ Dst K w' p (xs ++ [(Mk.nd ⟨kd, nm, dt, []⟩).new]) Q ∧ Kept K w w' := by
  obtain ⟨M, R, G, hK, hd⟩ := h
  refine (hK.make kz kd S D nm dt hkz hS hD hs ht (by rw [hd.n, hd.lim]; exact hr) h6).mono ?_
  rintro e w' ⟨rfl, hK', hk⟩
  refine ⟨by rw [hd.n], ⟨_, _, _, hK', hd.lim, ?_, fun k hk => ?_, by rw [hd.r, hd.n, updR_self _ _ _ hq], by rw [hd.g]; exact updR_self _ _ _ rfl⟩, hk⟩
  · rw [List.length_append]; exact congrArg (· + 1) hd.n
  · show (if k = M.n then _ else M.nd k) = _
    rw [List.length_append, List.length_singleton] at hk
    by_cases c : k = xs.length
    · rw [if_pos (c.trans hd.n.symm)]
      subst c
      rw [List.getElem_append_right (Nat.le_refl _)]
      simp
    · rw [if_neg (by rw [hd.n]; exact c), List.getElem_append_left (by omega)]
      exact hd.nd k (by omega)
/-- A node that is the root of another one. -/
def rtN (f : Fg) (host : Nat) : Nd := ⟨5, [], [], [], f, -1, (host : Int), -1⟩
theorem Dst.root (h : Dst K w p xs Q) (host : Nat) (f : Fg) (hh : host < xs.length) (hk : xs[host].kind = 1) (hs : xs[host].shadow = -1) (hq : Q xs.length = []) (hr : xs.length + 1 ≤ 300) :
    Calls Try.prog 10 #[.pointer (some ⟨p, 0, none⟩), .int .i64 (host : Int), fgV f] w fun e w' => e = .returned (.tuple #[.int .i64 (xs.length : Int), .int .u16 0]) ∧ Dst K w' p (xs.set host { xs[host] with shadow := (xs.length : Int) } ++ [rtN f host]) Q ∧ Kept K w w' := by
  obtain ⟨M, R, G, hK, hd⟩ := h
  refine (hK.root f (by rw [hd.n]; exact hh) (by rw [hd.nd host hh]; exact hk) (by rw [hd.nd host hh]; exact hs) (by rw [hd.n, hd.lim]; exact hr)).mono ?_
  rintro e w' ⟨rfl, hK', hkk⟩
  refine ⟨by rw [hd.n], ⟨_, _, _, hK', hd.lim, ?_, fun k hk => ?_, by rw [hd.r, hd.n, updR_self _ _ _ hq], by rw [hd.g]; exact updR_self _ _ _ rfl⟩, hkk⟩
  · rw [List.length_append, List.length_set]; exact congrArg (· + 1) hd.n
  · rw [List.length_append, List.length_singleton, List.length_set] at hk
    have hne : host ≠ M.n := by rw [hd.n]; omega
    by_cases c : k = xs.length
    · have : (M.addR host f).nd k = rtN f host := by
        unfold Dm.addR
        rw [setN_ne _ _ (by rw [c]; omega), show k = M.n from c.trans hd.n.symm, setN_same]
        show ({ (if M.n = M.n then (shN f).new else M.nd M.n) with host := (host : Int) } : Nd) = _
        rw [if_pos rfl]; rfl
      rw [this]
      subst c
      rw [List.getElem_append_right (by rw [List.length_set]; exact Nat.le_refl _)]
      simp
    · rw [List.getElem_append_left (by rw [List.length_set]; omega)]
      by_cases c2 : k = host
      · subst c2
        unfold Dm.addR
        rw [setN_same, setN_ne _ _ hne, List.getElem_set_self]
        show ({ (if k = M.n then (shN f).new else M.nd k) with shadow := (M.n : Int) } : Nd) = _
        rw [if_neg hne, hd.nd k hh, hd.n]
      · unfold Dm.addR
        rw [setN_ne _ _ c2, setN_ne _ _ (by rw [hd.n]; exact c), List.getElem_set_ne (fun e => c2 e.symm)]
        show (if k = M.n then (shN f).new else M.nd k) = _
        rw [if_neg (by rw [hd.n]; exact c)]
        exact hd.nd k (by omega)
theorem Ds.free (hd : Ds M R G xs Q) (hI : Inv M R G rk) {i : Nat} (hi : i < xs.length) (hf : ∀ u, u < xs.length → i ∉ Q u) : (M.pl i).up = -1 := by
  rcases hI.good.wf.inn i (by rw [hd.n]; exact hi) with e | ⟨u, hu, e, hm⟩
  · exact e
  · rw [hd.r] at hm; exact absurd hm (hf u (by rw [← hd.n]; exact hu))
theorem Ds.up (hd : Ds M R G xs Q) (hI : Inv M R G rk) {i u : Nat} (hu : u < xs.length) (hm : i ∈ Q u) : (M.pl i).up = (u : Int) :=
  hI.good.wf.up (by rw [hd.n]; exact hu) (by rw [hd.r]; exact hm)
theorem wi_leaf {M : Dm} {rk : Nat → Nat} (ha : Acy M rk) {i k : Nat} (hp : ∀ k, k < M.n → parI M k ≠ (i : Int)) (hw : Wi M i k) : k < M.n → k = i := by
  induction hw with
  | here => intro _; rfl
  | @up k m e _ ih =>
    intro hk
    rcases ha k hk with e' | ⟨m', hm', e', _⟩
    · omega
    · have : m' = m := by omega
      subst this
      have := ih hm'
      subst this
      exact absurd e (hp k hk)
theorem Dst.ins (h : Dst K w p xs Q) (up i : Nat) (hu : up < xs.length) (hi : i < xs.length) (hui : up ≠ i) (hh : holdB xs[up] = true) (h0 : i ≠ 0) (hk5 : xs[i].kind ≠ 5) (hk4 : xs[i].kind ≠ 4) (hf : ∀ u, u < xs.length → i ∉ Q u) (hq : Q i = []) (hho : ∀ k (h : k < xs.length), xs[k].host ≠ (i : Int)) :
    Calls Try.prog 8 #[.pointer (some ⟨p, 0, none⟩), .int .i64 (up : Int), .int .i64 (i : Int), .int .i64 (-1)] w fun e w' => e = .returned (.int .u16 0) ∧ Dst K w' p xs (updR Q up (Q up ++ [i])) ∧ Kept K w w' := by
  obtain ⟨M, R, G, hK, hd⟩ := h
  obtain ⟨rk, hI⟩ := hK.inv
  have hfree := hd.free hI hi hf
  have hF : Fits M up i (-1) := by
    refine ⟨by rw [hd.nd up hu]; exact hh, ?_, fun hw => ?_, .inl rfl⟩
    · unfold moveB
      rw [hd.nd i hi]
      simp [h0, hk5, hk4]
    · refine hui (wi_leaf hI.good.acy (fun k hk e => ?_) hw (by rw [hd.n]; exact hu))
      unfold parI at e
      by_cases c : (M.pl k).up = -1
      · rw [if_pos c, hd.nd k (by rw [← hd.n]; exact hk)] at e
        exact hho k _ e
      · rw [if_neg c] at e
        rcases hI.good.wf.inn k hk with e' | ⟨u, hu', e', hm⟩
        · exact c e'
        · have : u = i := by omega
          subst this
          rw [hd.r, hq] at hm
          cases hm
  refine (hK.ins (-1) (by rw [hd.n]; exact hu) (by rw [hd.n]; exact hi) (.inl rfl) hF).mono ?_
  rintro e w' ⟨rfl, hK', hkk⟩
  refine ⟨rfl, ⟨_, _, _, hK', hd.lim, hd.n, hd.nd, ?_, hd.g⟩, hkk⟩
  unfold putDR
  rw [if_neg (by rw [hd.nd i hi]; exact hk4), if_neg (by omega), putR_free hfree, hd.r]
end
end Go.Proofs.Ytojbjiopilkbgaa
