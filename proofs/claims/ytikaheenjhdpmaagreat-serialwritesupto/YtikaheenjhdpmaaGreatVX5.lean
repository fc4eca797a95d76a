/-
  A document that is made call by call. A document told by its nodes and rows, with any limit; what is written of it. The chapter's example. portierelaw13: heavy, and both documents behind calls. Options that come in: a bool and a row of integers.
-/
import Derived.Test.YtikaheenjhdpmaaGreatVW32
import Derived.Test.YtikaheenjhdpmaaGreatVX4
import Derived.Test.YtikaheenjhdpmaaGreatVW29
import Derived.Test.YtikaheenjhdpmaaGreatVW26
import Derived.Test.YtikaheenjhdpmaaGreatVW17
import Derived.Deep.MidRow
import Derived.Test.YtikaheenjhdpmaaGreatVW25
namespace Go.Proofs.YtikaheenjhdpmaaGreat
section
open Go.RowKit
set_option linter.unusedVariables false
set_option maxRecDepth 100000
set_option maxHeartbeats 8000000
structure Kn (K : Nat -> Prop) (w : World) (p : Nat) (M : Dm) (R G : Nat -> List Nat) : Prop where
 d : DX K w p M
 inv : ∃ rk, Inv M R G rk
 lim : M.limit <= 100000
 le : M.n <= M.limit
section
variable {K : Nat -> Prop} {w w' : World} {p : Nat} {M : Dm} {R G : Nat -> List Nat}
theorem Kn.kept (h : Kn K w p M R G) (hk : Kept (fun k => k < w.heap.size) w w') : Kn K w' p M R G := ⟨h.d.kept hk, h.inv, h.lim, h.le⟩
theorem Kn.new {w0 : World} {limit : Nat} (hX : DX K w p (Dm.new limit)) (h1 : 1 <= limit) (h2 : limit <= 100000) : Kn K w p (Dm.new limit) (fun _ => []) (fun _ => []) := ⟨hX, ⟨_, Inv.new limit⟩, h2, h1⟩
theorem Kn.ins (h : Kn K w p M R G) {up i : Nat} (bef : Int) (hu : up < M.n) (hi : i < M.n) (hb : bef = -1 \/ ∃ m : Nat, m < M.n /\ bef = (m : Int)) (hF : Fits M up i bef) :
  Calls Tryz.prog 36 #[.pointer (some ⟨p, 0, none⟩), .int .i64 (up : Int), .int .i64 (i : Int), .int .i64 bef] w fun e w' => e = .returned (.int .u16 0) /\ Kn K w' p (M.setP (zfh M R up i bef)) (zev M R up i bef) G /\ Kept K w w' := by
 obtain ⟨rk, hI⟩ := h.inv
 refine (zfq K p up i bef M R rk w h.d hI.good.wf hI.good.acy hu hi hb (by have := h.le; have := h.lim; omega)).mono ?_
 rintro e w' ⟨hK, ⟨_, hn, _⟩ | ⟨e, _, hX⟩⟩
 ·exact absurd hF hn
 ·exact ⟨e, ⟨hX, hI.ins hu hi hF, h.lim, h.le⟩, hK⟩
end
end
section
open Go.RowKit
set_option linter.unusedVariables false
set_option maxRecDepth 100000
set_option maxHeartbeats 4000000
theorem zsx {M : Dm} {rk : Nat -> Nat} (ha : Acy M rk) {i k : Nat} (hp : ∀ k, k < M.n -> zbk M k ≠ (i : Int)) (hw : Wi M i k) : k < M.n -> k = i := by
 induction hw with
 | here => intro _; rfl
 | @up k m e _ ih =>
  intro hk
  rcases ha k hk with e' | ⟨m', hm', e', _⟩
  ·omega
  ·have : m' = m := by omega
   subst this
   have := ih hm'
   subst this
   exact absurd e (hp k hk)
structure Dl (L : Nat) (M : Dm) (R G : Nat -> List Nat) (xs : List Nd) (Q : Nat -> List Nat) : Prop where
 lim : M.limit = L
 n : M.n = xs.length
 nd : ∀ k (h : k < xs.length), M.nd k = xs[k]
 r : R = Q
 g : G = fun _ => []
def Dq (L : Nat) (K : Nat -> Prop) (w : World) (p : Nat) (xs : List Nd) (Q : Nat -> List Nat) : Prop := ∃ M R G, Kn K w p M R G /\ Dl L M R G xs Q
section
variable {L : Nat} {K : Nat -> Prop} {w w' : World} {p : Nat} {xs : List Nd} {Q : Nat -> List Nat} {M : Dm} {R G : Nat -> List Nat} {rk : Nat -> Nat}
theorem Dq.kept (h : Dq L K w p xs Q) (hk : Kept (fun k => k < w.heap.size) w w')  : Dq L K w' p xs Q := by
 obtain ⟨M, R, G, a, b⟩ := h
 exact ⟨M, R, G, a.kept hk, b⟩
theorem Dq.start (hL1 : 1 <= L) (hL2 : L <= 100000) (hX : DX K w p (Dm.new L))  : Dq L K w p [za1.new] (fun _ => []) :=
 ⟨_, _, _, Kn.new (w0 := w) hX hL1 hL2, rfl, rfl, fun k h => by
  have : k = 0 := by simp at h; omega
  subst this; rfl, rfl, rfl⟩
theorem Dq.makeA (h : Dq L K w p xs Q) (kd : Nat) (S D : ByteArray) (l : List Atr) (aa : Option Addr) (n ac : Nat) (r : Rest) (nm dt : List UInt8) (hS : S.toList = nm) (hD : D.toList = dt) (hln : l.length = n) (hn : n <= 1000) (ha : Zah (fun k => k < w.heap.size) w aa l) (hsz : ∀ x ∈ l, x.name.length <= 1000000000 /\ x.value.length <= 1000000000) (hs : zat ⟨kd, nm, dt, l⟩ = true) (ht : ¬ (kd = 1 /\ nm = [116, 101, 109, 112, 108, 97, 116, 101])) (hq : Q xs.length = []) (hr : xs.length + 1 <= L) (h6 : kd = 6 -> nm.length < 1000000) (ho : Okd (Mk.nd ⟨kd, nm, dt, l⟩)) :
  Calls Tryz.prog 35 #[.pointer (some ⟨p, 0, none⟩), zlm kd S D aa n ac r] w fun e w' => e = .returned (.tuple #[.int .i64 (xs.length : Int), .int .u16 0]) /\ Dq L K w' p (xs ++ [(Mk.nd ⟨kd, nm, dt, l⟩).new]) Q /\ Kept K w w' := by
 obtain ⟨M, R, G, hK, hd⟩ := h
 obtain ⟨rk, hI⟩ := hK.inv
 refine (zk2 K p kd S D l aa n ac r w M hK.d (Nat.le_trans hK.le hK.lim) hK.lim hln (by omega) ha hsz).mono ?_
 rintro e w' ⟨hk, hM⟩
 rw [hS, hD] at hM
 have hroom : M.n + 1 <= M.limit := by rw [hd.n, hd.lim]; exact hr
 cases hM with
 | arg h1 => rw [hs] at h1; cases h1
 | full h1 h2 h3 h4 => rw [if_neg ht] at h2; omega
 | two h1 h2 => exact absurd h2 ht
 | one h1 h2 h3 he hX =>
  have hm := zii hs
  refine ⟨by rw [he, hd.n], ⟨_, _, _, ⟨hX, ⟨rk, hI.add _ hm hm.few hs ht h6 ho⟩, hK.lim, hroom⟩, hd.lim, ?_, fun k hk => ?_, by rw [hd.r, hd.n, zf4 _ _ _ hq], by rw [hd.g]; exact zf4 _ _ _ rfl⟩, hk⟩
  ·rw [List.length_append]; exact congrArg (· + 1) hd.n
  ·show (if k = M.n then _ else M.nd k) = _
   rw [List.length_append, List.length_singleton] at hk
   by_cases c : k = xs.length
   ·rw [if_pos (c.trans hd.n.symm)]
    subst c
    rw [List.getElem_append_right (Nat.le_refl _)]
    simp
   ·rw [if_neg (by rw [hd.n]; exact c), List.getElem_append_left (by omega)]
    exact hd.nd k (by omega)
theorem Dl.free (hd : Dl L M R G xs Q) (hI : Inv M R G rk) {i : Nat} (hi : i < xs.length) (hf : ∀ u, u < xs.length -> i ∉ Q u) : (M.pl i).up = -1 := by
 rcases hI.good.wf.inn i (by rw [hd.n]; exact hi) with e | ⟨u, hu, e, hm⟩
 ·exact e
 ·rw [hd.r] at hm; exact absurd hm (hf u (by rw [<- hd.n]; exact hu))
theorem Dl.up (hd : Dl L M R G xs Q) (hI : Inv M R G rk) {i u : Nat} (hu : u < xs.length) (hm : i ∈ Q u) : (M.pl i).up = (u : Int) :=
 hI.good.wf.up (by rw [hd.n]; exact hu) (by rw [hd.r]; exact hm)
theorem Dq.ins (h : Dq L K w p xs Q) (up i : Nat) (hu : up < xs.length) (hi : i < xs.length) (hui : up ≠ i) (hh : zdk xs[up] = true) (h0 : i ≠ 0) (hk5 : xs[i].kind ≠ 5) (hk4 : xs[i].kind ≠ 4) (hf : ∀ u, u < xs.length -> i ∉ Q u) (hq : Q i = []) (hho : ∀ k (h : k < xs.length), xs[k].host ≠ (i : Int)) :
  Calls Tryz.prog 36 #[.pointer (some ⟨p, 0, none⟩), .int .i64 (up : Int), .int .i64 (i : Int), .int .i64 (-1)] w fun e w' => e = .returned (.int .u16 0) /\ Dq L K w' p xs (za0 Q up (Q up ++ [i])) /\ Kept K w w' := by
 obtain ⟨M, R, G, hK, hd⟩ := h
 obtain ⟨rk, hI⟩ := hK.inv
 have hfree := hd.free hI hi hf
 have hF : Fits M up i (-1) := by
  refine ⟨by rw [hd.nd up hu]; exact hh, ?_, fun hw => ?_, .inl rfl⟩
  ·unfold zgb
   rw [hd.nd i hi]
   simp [h0, hk5, hk4]
  ·refine hui (zsx hI.good.acy (fun k hk e => ?_) hw (by rw [hd.n]; exact hu))
   unfold zbk at e
   by_cases c : (M.pl k).up = -1
   ·rw [if_pos c, hd.nd k (by rw [<- hd.n]; exact hk)] at e
    exact hho k _ e
   ·rw [if_neg c] at e
    rcases hI.good.wf.inn k hk with e' | ⟨u, hu', e', hm⟩
    ·exact c e'
    ·have : u = i := by omega
     subst this
     rw [hd.r, hq] at hm
     cases hm
 refine (hK.ins (-1) (by rw [hd.n]; exact hu) (by rw [hd.n]; exact hi) (.inl rfl) hF).mono ?_
 rintro e w' ⟨rfl, hK', hkk⟩
 refine ⟨rfl, ⟨_, _, _, hK', hd.lim, hd.n, hd.nd, ?_, hd.g⟩, hkk⟩
 unfold zev
 rw [if_neg (by rw [hd.nd i hi]; exact hk4), if_neg (by omega), zow hfree, hd.r]
end
def y0 : Nd := ⟨0, [], [], [], ⟨false, false, false, false, false⟩, 0, 0, 0⟩
section
variable {L : Nat} {K : Nat -> Prop} {w w' : World} {p : Nat} {xs : List Nd} {Q : Nat -> List Nat}
theorem Dq.inner (h : Dq L K w p xs Q) (sz : ∀ x ∈ xs, Szd x) (i : Nat) (hi : i < xs.length) (o : Opt w) (T : List UInt8) (hl : T.length <= 1099511627776) (hT : ∀ (M : Dm) (F : Nat), (∀ k (h : k < xs.length), M.nd k = xs[k]) -> zb0 o.ask M Q (F + 3) i = T) :
  Calls Tryz.prog 21 #[.pointer (some ⟨p, 0, none⟩), .int .i64 (i : Int), o.val] w fun e w' => e = .returned (.string ⟨T.toArray⟩) /\ Kept (fun k => k < w.heap.size) w w' := by
 obtain ⟨M, R, G, hK, hd⟩ := h
 obtain ⟨rk, hI⟩ := hK.inv
 have hr := hd.r
 subst hr
 have e := hT M (dn M.n rk i) hd.nd
 have hin : i < M.n := by rw [hd.n]; exact hi
 have hsz : ∀ k, k < M.n -> Szd (M.nd k) := fun k hk => by
  have hk' : k < xs.length := by rw [<- hd.n]; exact hk
  rw [hd.nd k hk']; exact sz _ (List.getElem_mem hk')
 have r := zi2 hI (Nat.le_trans hK.le hK.lim) hsz (dn M.n rk i + 3) i hin (by omega) w hK.d o (by rw [e]; exact hl)
 rw [e] at r
 exact r
theorem Dq.outer (h : Dq L K w p xs Q) (sz : ∀ x ∈ xs, Szd x) (i : Nat) (hi : i < xs.length) (raw : Bool) (hup : (∃ u, ∃ h : u < xs.length, i ∈ Q u /\ raw = isR xs[u]) \/ ((∀ u, u < xs.length -> i ∉ Q u) /\ raw = false)) (o : Opt w) (T : List UInt8) (hl : T.length <= 1099511627776) (hT : ∀ (M : Dm) (F : Nat), (∀ k (h : k < xs.length), M.nd k = xs[k]) -> zb1 (zb0 o.ask M Q (F + 3) i) xs[i] raw = T) :
  Calls Tryz.prog 23 #[.pointer (some ⟨p, 0, none⟩), .int .i64 (i : Int), o.val] w fun e w' => e = .returned (.string ⟨T.toArray⟩) /\ Kept (fun k => k < w.heap.size) w w' := by
 obtain ⟨M, R, G, hK, hd⟩ := h
 obtain ⟨rk, hI⟩ := hK.inv
 have hle := Nat.le_trans hK.le hK.lim
 have hin : i < M.n := by rw [hd.n]; exact hi
 have e := hT M (dn M.n rk i) hd.nd
 have hsz : ∀ k, k < M.n -> Szd (M.nd k) := fun k hk => by
  have hk' : k < xs.length := by rw [<- hd.n]; exact hk
  rw [hd.nd k hk']; exact sz _ (List.getElem_mem hk')
 rcases hup with ⟨u, hu, hm, rfl⟩ | ⟨hf, rfl⟩
 ·have hun : u < M.n := by rw [hd.n]; exact hu
  have eu := hd.up hI hu hm
  have hr := hd.r
  subst hr
  rw [<- hd.nd u hu, <- hd.nd i hi] at e
  have r := zea hI hle hsz (dn M.n rk i + 3) i hin (by omega) w hK.d o (M.nd u) (fun V hV => by
   rw [eu]
   refine (zef K p u M R V (hK.d.kept hV) hI.good.wf hun (by omega) hI.good.few).mono ?_
   rintro e w' ⟨ao, ac, ko, kc, rfl, -, -, hk⟩
   exact ⟨ao, ac, _, ko, _, kc, 0, rfl, hk⟩) (by rw [eu]; exact ⟨by omega, by omega⟩) (by rw [e]; exact hl)
  rw [e] at r
  exact r
 ·have eu := hd.free hI hi hf
  have hr := hd.r
  subst hr
  have e0 : isR y0 = false := rfl
  rw [<- e0, <- hd.nd i hi] at e
  have r := zea hI hle hsz (dn M.n rk i + 3) i hin (by omega) w hK.d o y0 (fun V hV => by
   rw [eu]
   refine (zc4 K p M (-1) V (hK.d.kept hV) (.inl (by omega)) (by omega)).mono ?_
   rintro e w' ⟨rfl, hk⟩
   exact ⟨none, 0, 0, none, 0, 0, 80, rfl, hk⟩) (by rw [eu]; exact ⟨by omega, by omega⟩) (by rw [e]; exact hl)
  rw [e] at r
  exact r
def zve (w : World) : Opt w := ⟨false, none, 0, 0, [], rfl, Nat.zero_le _, fun j h => by cases h⟩
end
end
section
open Go.RowKit
set_option linter.unusedVariables false
set_option maxRecDepth 100000
set_option maxHeartbeats 4000000
theorem zst {o : Ask} {M : Dm} {Q : Nat -> List Nat} {F i : Nat} {x : Nd} (e : M.nd i = x) (hv : isV x = false) (hc : x.content = -1) : zb0 o M Q (F + 1) i = zff o M (zb0 o M Q F) x ++ zgh M (zb0 o M Q F) (isR x) (Q i) := by
 show zq2 o M Q (zb0 o M Q F) i = _
 unfold zq2
 rw [e, if_neg (by rw [hv]; decide)]
 have : zfd x i = i := if_pos hc
 rw [this, e]
theorem zpp {o : Ask} {M : Dm} {inn : Nat -> List UInt8} {x : Nd} (h : x.shadow = -1) : zff o M inn x = [] := if_pos h
theorem zmn {M : Dm} {inn : Nat -> List UInt8} {raw : Bool} {k : Nat} : zgh M inn raw [k] = zb1 (inn k) (M.nd k) raw := by
 unfold zgh; rw [List.flatMap_singleton]; rfl
theorem zmx {x : Mk} (h1 : x.attrs.length <= 1000) (h2 : ∀ a ∈ x.attrs, a.value.length < 1000000) (h3 : x.data.length < 1000000) (h4 : x.kind <= 255) : Szd x.nd.new := ⟨h1, h2, fun _ => h3, h4⟩
theorem zpt : Szd za1.new := ⟨by decide, fun a h => (by cases h), fun _ => (by decide), by decide⟩
def elx (nm : List UInt8) (l : List Atr) : Nd := (Mk.nd ⟨1, nm, [], l⟩).new
def txx (d : List UInt8) : Nd := (Mk.nd ⟨2, [], d, []⟩).new
abbrev q12 : Nat -> List Nat := za0 (fun _ => []) 1 ((fun _ => [] : Nat -> List Nat) 1 ++ [2])
theorem ztg {o : Ask} {M : Dm} {F : Nat} {nm : List UInt8} {l : List Atr} {d : List UInt8} (h : ∀ k (h : k < [za1.new, elx nm l, txx d].length), M.nd k = [za1.new, elx nm l, txx d][k]) (hv : za7 nm = false) : zb0 o M q12 (F + 3) 1 = if zh0 nm = true then d else esc false d := by
 have e1 : M.nd 1 = elx nm l := h 1 (by simp)
 have e2 : M.nd 2 = txx d := h 2 (by simp)
 rw [zst e1 (by show (true && za7 nm) = false; rw [hv]; rfl) rfl, zpp rfl]
 have hq : q12 1 = [2] := rfl
 rw [hq, zmn, e2, List.nil_append]
 have hr : isR (elx nm l) = zh0 nm := by show (true && zh0 nm) = _; rw [Bool.true_and]
 rw [hr]
 rfl
theorem zu0 {o : Ask} {M : Dm} {F : Nat} {nm : List UInt8} {l : List Atr} {d : List UInt8} (h : ∀ k (h : k < [za1.new, elx nm l, txx d].length), M.nd k = [za1.new, elx nm l, txx d][k]) (hv : za7 nm = false) : zb1 (zb0 o M q12 (F + 3) 1) (elx nm l) false = zdi nm l ++ ((if zh0 nm = true then d else esc false d) ++ zdm nm) := by
 rw [ztg h hv]
 show zdi nm l ++ (if za7 nm = true then [] else _ ++ zdm nm) = _
 rw [if_neg (by rw [hv]; decide)]
theorem zto (u : Nat) : 1 ∉ q12 u := fun hm => by
 by_cases c : u = 1
 ·subst c; rw [show q12 1 = [2] from rfl] at hm; simp at hm
 ·rw [show q12 u = [] from zaq _ _ c] at hm; cases hm
section
variable {L : Nat} {K : Nat -> Prop} {w w' : World} {p : Nat}
theorem Zah.one {K : Nat -> Prop} {w : World} {g : Nat} {a b : List UInt8} {t : TypeId} (hb : w.heap[g]? = some (.cells #[sv a, sv b] t (0, 0))) (hK : K g) : Zah K w (some ⟨g, 0, none⟩) [⟨a, b⟩] := fun j hj => by
 have : j = 0 := by simp at hj; omega
 subst this
 exact ⟨g, 0, rfl, hK, by rw [zaa hb]; rfl, by rw [zaa hb]; rfl⟩
theorem zpx {nm : List UInt8} {l : List Atr} {d : List UInt8} (h : Dq L K w p [za1.new, elx nm l, txx d] (fun _ => [])) (hh : zdk (elx nm l) = true) :
  Calls Tryz.prog 36 #[.pointer (some ⟨p, 0, none⟩), .int .i64 1, .int .i64 2, .int .i64 (-1)] w fun e w' => e = .returned (.int .u16 0) /\ Dq L K w' p [za1.new, elx nm l, txx d] q12 /\ Kept K w w' := by
 refine h.ins 1 2 (by simp) (by simp) (by decide) hh (by decide) (by show (2 : Nat) ≠ 5; decide) (by show (2 : Nat) ≠ 4; decide) (fun u _ hm => by cases hm) rfl (fun k hk => ?_)
 have hk3 : k = 0 \/ k = 1 \/ k = 2 := by simp at hk; omega
 rcases hk3 with rfl | rfl | rfl <;> (show (-1 : Int) ≠ ((2 : Nat) : Int); decide)
end
theorem zdt (w : World) : Calls Tryz.prog 17 #[] w fun e w' => e = .returned (.bool true) /\ Kept (fun k => k < w.heap.size) w w' := by
 have r0 := znt 9 w (by decide) (by decide)
 go_enter Tryz.func17, Tryz.ntmps17
 go_wp2_with fail
 refine r0.mono ?_
 rintro e w1 ⟨p, rfl, hp, hX1, hK1⟩
 have s1 := Dq.start (by decide) (by decide) hX1
 obtain ⟨V, N, hV, hN, hb, hkV, hzV⟩ := zae w1 #[sv [105, 100], sv [97]] 93
 have r1 := (s1.kept hkV).makeA 1 ⟨#[100, 105, 118]⟩ ⟨#[]⟩ [⟨[105, 100], [97]⟩] (some ⟨N, 0, none⟩) 1 1 zty [100, 105, 118] [] (by rw [ByteArray.toList_eq]) (by rw [ByteArray.toList_eq]) rfl (by decide) (Zah.one hb (zac hb)) (by decide) (by decide +kernel) (by decide) rfl (by decide) (by decide) ⟨by decide, fun _ => by decide⟩
 have HK1 : Hid (Kept (fun k => k < w.heap.size) w V) := hK1.trans (hkV.mono fun k h => ltl h hK1.size)
 have HV : Hid (w1.alloc (.cells #[sv [105, 100], sv [97]] 93) = V) := hV
 have HN : Hid (w1.heap.size = N) := hN
 clear r0 hp hX1 hK1 s1 hV hN hb hkV hzV
 go_upto_region 4 with fail
 go_wp2_with fail
 rw [HV.out, HN.out]
 clear HV HN
 refine r1.mono ?_
 rintro e w2 ⟨rfl, s2, hK2⟩
 have r2 := s2.makeA 2 ⟨#[]⟩ ⟨#[120, 60]⟩ [] none 0 0 zty [] [120, 60] (by rw [ByteArray.toList_eq]) (by rw [ByteArray.toList_eq]) rfl (by decide) (Zah.nil _ _ _) (by decide) (by decide +kernel) (by decide) rfl (by decide) (by decide) ⟨by decide, fun h => absurd h (by decide)⟩
 have HK2 : Hid (Kept (fun k => k < w.heap.size) w w2) := HK1.out.trans hK2
 clear r1 s2 hK2 HK1
 go_wp2_with fail
 refine r2.mono ?_
 rintro e w3 ⟨rfl, s3, hK3⟩
 have r3 := zpx (nm := [100, 105, 118]) (l := [⟨[105, 100], [97]⟩]) (d := [120, 60]) s3 (by decide +kernel)
 have HK3 : Hid (Kept (fun k => k < w.heap.size) w w3) := HK2.out.trans hK3
 clear r2 s3 hK3 HK2
 go_wp2_with fail
 refine r3.mono ?_
 rintro e w4 ⟨rfl, s4, hK4⟩
 have hsz : ∀ x ∈ [za1.new, elx [100, 105, 118] [⟨[105, 100], [97]⟩], txx [120, 60]], Szd x := by
  intro x hx
  simp only [List.mem_cons, List.not_mem_nil, or_false] at hx
  rcases hx with rfl | rfl | rfl
  ·exact zpt
  ·exact zmx (by decide) (by decide) (by decide) (by decide)
  ·exact zmx (by decide) (by decide) (by decide) (by decide)
 have ro : ∀ X, Kept (fun k => k < w4.heap.size) w4 X -> Calls Tryz.prog 23 #[.pointer (some ⟨p, 0, none⟩), .int .i64 1, .agg #[.bool false, .slice none 0 0]] X fun e w' => e = .returned (.string ⟨#[60, 100, 105, 118, 32, 105, 100, 61, 34, 97, 34, 62, 120, 38, 108, 116, 59, 60, 47, 100, 105, 118, 62]⟩) /\ Kept (fun k => k < X.heap.size) X w' := fun X hX =>
  (s4.kept hX).outer hsz 1 (by simp) false (.inr ⟨fun u _ => zto u, rfl⟩) (zve X) [60, 100, 105, 118, 32, 105, 100, 61, 34, 97, 34, 62, 120, 38, 108, 116, 59, 60, 47, 100, 105, 118, 62] (by decide) fun M F h => (zu0 h (by decide +kernel)).trans (by decide +kernel)
 have ri : ∀ X, Kept (fun k => k < w4.heap.size) w4 X -> Calls Tryz.prog 21 #[.pointer (some ⟨p, 0, none⟩), .int .i64 1, .agg #[.bool false, .slice none 0 0]] X fun e w' => e = .returned (.string ⟨#[120, 38, 108, 116, 59]⟩) /\ Kept (fun k => k < X.heap.size) X w' := fun X hX =>
  (s4.kept hX).inner hsz 1 (by simp) (zve X) [120, 38, 108, 116, 59] (by decide) fun M F h => (ztg h (by decide +kernel)).trans (by decide +kernel)
 have ro' := ro w4 (Kept.refl _ _)
 have RI : Hid _ := ri
 have HK4 : Hid (Kept (fun k => k < w.heap.size) w w4) := HK3.out.trans hK4
 clear r3 s4 hK4 HK3 hsz ro ri
 go_wp2_with fail
 refine ro'.mono ?_
 rintro e w5 ⟨rfl, hK5⟩
 have ri' := RI.out w5 hK5
 have HK5 : Hid (Kept (fun k => k < w.heap.size) w w5) := HK4.out.trans (hK5.mono fun k h => ltl h HK4.out.size)
 clear ro' hK5 RI HK4
 go_wp2_with fail
 refine ri'.mono ?_
 rintro e w6 ⟨rfl, hK6⟩
 have HK6 : Hid (Kept (fun k => k < w.heap.size) w w6) := HK5.out.trans (hK6.mono fun k h => ltl h HK5.out.size)
 clear ri' hK6 HK5
 go_wp2
 go_ret
 exact ⟨rfl, HK6.out⟩
end
section
set_option linter.unusedVariables false
set_option maxRecDepth 100000
set_option maxHeartbeats 8000000
section
open Go.RowKit Go.Sort
theorem zdz (l : List Opx) (n : Nat) (hln : l.length = n) (hnn : n <= 60) (a : Option Addr) (c : Nat) (hb2 : zcq l <= 2000000) (w : World) (h : Zfe (fun k => k < w.heap.size) w a l) :
  Calls Tryz.prog 16 #[.slice a n c] w fun e w' => e = .returned (.bool (decide (6000 < zcq l))) /\ Kept (fun k => k < w.heap.size) w w' := by
 have rh := zor l n hln (by omega) a c hb2 w h
 have hg60 : decide ((n : Int) > 60) = false := decide_eq_false (by omega)
 obtain ⟨hv, hhv⟩ : ∃ hv, zcq l = hv := ⟨_, rfl⟩
 rw [hhv] at rh ⊢
 have hg6 : decide ((hv : Int) > 6000) = decide (6000 < hv) := by
  by_cases c6 : 6000 < hv
  ·rw [decide_eq_true c6]; exact decide_eq_true (by omega)
  ·rw [decide_eq_false c6]; exact decide_eq_false (by omega)
 obtain ⟨b, hbb⟩ : ∃ b, decide (6000 < hv) = b := ⟨_, rfl⟩
 rw [hbb] at hg6 ⊢
 clear hhv h hln hb2 hbb
 go_enter Tryz.func16, Tryz.ntmps16
 go_wp2_with (go_at_call 34; refine rh.mono ?_; rintro e w1 ⟨rfl, k1⟩)
 go_ret
 exact ⟨rfl, k1⟩
theorem zsh (l : List Opx) (n : Nat) (hln : l.length = n) (hnn : n <= 1000000) (a : Option Addr) (c : Nat) (hok : ∀ o ∈ l, Zme o) (hb : zcq l <= 900000) (w : World) (h : Zfe (fun k => k < w.heap.size) w a l) :
  Calls Tryz.prog 18 #[.slice a n c] w fun e w' => ∃ p r E M R G rk, e = .returned (.tuple #[.pointer (some ⟨p, 0, none⟩), .pointer (some ⟨r, 0, none⟩)]) /\ Grown (fun k => k < w.heap.size) E w' p r M R G rk 300 /\ Kept (fun k => k < w.heap.size) w w' := by
 have rn := znt 300 w (by decide) (by decide)
 have HRN : Hid (∀ X, Calls Tryz.prog 37 #[.int .i64 300] X fun e w' => ∃ p, e = .returned (.pointer (some ⟨p, 0, none⟩)) /\ X.heap.size <= p /\ RX (fun k => k < X.heap.size) TT w' p (Dm.new 300) (fun _ => []) (fun _ => []) /\ Kept (fun k => k < X.heap.size) X w') := fun X => zqn 300 X (by decide) (by decide)
 have HL : Hid (l.length = n) := hln
 have HB : Hid (zcq l <= 900000) := hb
 have HH : Hid (Zfe (fun k => k < w.heap.size) w a l) := h
 have HOK : Hid (∀ o ∈ l, Zme o) := hok
 clear hln hb h hok
 go_enter Tryz.func18, Tryz.ntmps18
 go_wp2_with fail
 refine rn.mono ?_
 rintro e w1 ⟨p, rfl, hp, hX1, k1⟩
 clear rn
 have rn2 := HRN.out w1
 have HX1 : Hid (DX (fun k => k < w.heap.size) w1 p (Dm.new 300)) := hX1
 have HK1 : Hid (Kept (fun k => k < w.heap.size) w w1) := k1
 clear hX1 k1 HRN
 go_wp2_with fail
 refine rn2.mono ?_
 rintro e w2 ⟨r, rfl, hr, hX2, k2⟩
 clear rn2
 have HG2 : Hid (Grown (fun k => k < w.heap.size) (fun k => w1.heap.size <= k /\ k < w2.heap.size) w2 p r (Dm.new 300) (fun _ => []) (fun _ => []) (fun _ => 0) 300) := ⟨zr2 HX1.out HK1.out hX2 k2, Inv.new 300, rfl, by show 1 <= 300; decide⟩
 have HK2 : Hid (Kept (fun k => k < w.heap.size) w w2) := HK1.out.trans (k2.mono fun k h => ltl h HK1.out.size)
 clear HX1 HK1 hX2 k2 hp hr
 go_upto_region 4 with fail
 go_loopg [6] n (fun gh v wr => ∃ (k : Nat) (E : Nat -> Prop) (M : Dm) (R G : Nat -> List Nat) (rk : Nat -> Nat), gh = n - k /\ k <= n /\ v = .int .i64 (k : Int) /\ Grown (fun k => k < w.heap.size) E wr p r M R G rk 300 /\ Kept (fun k => k < w.heap.size) w wr)
 case atStart => exact ⟨0, _, _, _, _, _, rfl, Nat.zero_le _, rfl, HG2.out, HK2.out⟩
 case round =>
  clear HG2 HK2
  obtain ⟨k, E, M, R, G, rk, hgk, hk, rfl, hG, hK⟩ := hrel
  have HG : Hid (Grown (fun k => k < w.heap.size) E wr p r M R G rk 300) := hG
  have HK : Hid (Kept (fun k => k < w.heap.size) w wr) := hK
  by_cases hlt : k < n
  ·have hll : k < l.length := by rw [HL.out]; exact hlt
   obtain ⟨g, o, A, rfl, hg, hA, hc⟩ := HH.out k hll
   have hmem := List.getElem_mem hll
   obtain ⟨x, hx⟩ : ∃ x, l[k] = x := ⟨_, rfl⟩
   rw [hx] at hA hc hmem
   have hvx := zpn hmem
   have hrange : wr.rangeAt g (o + k * 17) (opC x A) := fun f u hu => (hK.cell (p := ⟨g, o + k * 17 + f, none⟩) hg).trans (hc f u hu)
   obtain ⟨N, hN⟩ : ∃ N, wr.heap.size = N := ⟨_, rfl⟩
   have hb1 : (wr.alloc (.cells zb7 72)).heap[N]? = some (.cells zb7 72 (0, 0)) := by rw [<- hN]; exact heap_alloc_new wr _
   obtain ⟨W1, hW1⟩ : ∃ W1, (wr.alloc (.cells zb7 72)).setRow N (opC x A).toArray = W1 := ⟨_, rfl⟩
   have hB1 : W1.heap[N]? = some (.cells (opC x A).toArray 72 (0, 0)) := by rw [<- hW1]; exact setRow_heap _ _ _ _ _ _ hb1
   have k1 : Kept (fun k => k < wr.heap.size) wr W1 := by rw [<- hW1]; exact zao ((Kept.refl _ wr).alloc (fun _ h => h) _) (by rw [hN]; exact Nat.lt_irrefl _) _
   obtain ⟨W2, hW2⟩ : ∃ W2, W1.setCell ⟨N, 4, none⟩ (.bool true) = W2 := ⟨_, rfl⟩
   have hB2 : W2.heap[N]? = some (.cells (opC { x with inn := true } A).toArray 72 (0, 0)) := by rw [<- hW2]; exact zcf hB1 4 (.bool true)
   have k2 : Kept (fun k => k < wr.heap.size) wr W2 := by rw [<- hW2]; exact k1.setCell (p := ⟨N, 4, none⟩) (by rw [hN]; exact Nat.lt_irrefl _) _
   have k2w : Kept (fun k => k < w.heap.size) w W2 := hK.trans (k2.mono fun k h => ltl h hK.size)
   have b4 : W1.cell? ⟨N, 4, none⟩ = some (.bool x.inn) := by rw [zaa hB1]; rfl
   have f4 : W1.frozen? ⟨N, 4, none⟩ = false := zam hB1 4
   have e0 : W2.cell? ⟨N, 0, none⟩ = some (.int .u8 (x.k : Int)) := by rw [zaa hB2]; rfl
   have hdoes := zqw (fun k => k < w.heap.size) E p r M R G rk W2 { x with inn := true } A ⟨(hG.kept k2).two, hG.inv, hG.le, by rw [hG.lim]; decide, (HOK.out x hmem).inn, by have := HB.out; show opH x <= _; omega, hA.kept k2w (fun g hg => hg), rfl⟩
   obtain ⟨cs, hcs⟩ : ∃ cs, (opC x A).toArray = cs := ⟨_, rfl⟩
   have hsz : cs.size = 17 := by rw [<- hcs]; rfl
   have hone : cs.all (·.oneCell') = true := by rw [<- hcs]; exact zfu x A
   have hlen : (opC x A).length = 17 := rfl
   obtain ⟨cl, hcl⟩ : ∃ cl, opC x A = cl := ⟨_, rfl⟩
   have hcc : cl.toArray = cs := by rw [<- hcl]; exact hcs
   rw [hcl] at hrange hlen
   have hil : (Tryz.prog.info? 72).map (·.size) = some cl.length := by rw [hlen]; exact zc2 cs hsz |>.trans (by rw [hsz])
   have HW1 : Hid ((wr.alloc (.cells zb7 72)).setRow N cs = W1) := by rw [<- hcs]; exact hW1
   have HW2 : Hid (W1.setCell ⟨N, 4, none⟩ (.bool true) = W2) := hW2
   have HN : Hid (wr.heap.size = N) := hN
   have HN' : Hid (N = wr.heap.size) := hN.symm
   obtain ⟨cs2, hcs2⟩ : ∃ cs2, (opC { x with inn := true } A).toArray = cs2 := ⟨_, rfl⟩
   have hsz2 : cs2.size = 17 := by rw [<- hcs2]; rfl
   rw [hcs2] at hB2
   obtain ⟨q, hq⟩ : ∃ q, x.k % 16 = q := ⟨_, rfl⟩
   have hkm : (x.k : Int).tmod 16 = (q : Int) := by rw [<- hq]; rfl
   have HD : Hid (Calls Tryz.prog 38 #[.pointer (some ⟨p, 0, none⟩), .pointer (some ⟨r, 0, none⟩), .agg cs2] W2 (Zg5 (fun k => k < w.heap.size) p r M W2)) := by rw [<- hcs2]; exact hdoes
   have HG2 : Hid (Grown (fun k => k < w.heap.size) E W2 p r M R G rk 300) := hG.kept k2
   have HK2 : Hid (Kept (fun k => k < w.heap.size) w W2) := k2w
   clear hG hK hc hA hmem hx hvx hdoes hq hW1 hW2 hB1 k1 k2 k2w hcs hcs2 hN hlen hcl
   go_upto_region 6 with fail
   go_upto_region 7 with (first | (refine wpList_load_mid rfl 72 _ rfl g (o + k * 17) rfl cl _ hrange Tryz.underlying72 rfl hil ?_; rw [hcc]) | (rw [HN.out]; refine wpList_store_row rfl 72 _ _ rfl N cs rfl rfl 72 _ hb1 (zc2 _ hsz) (by rw [hsz]; rfl) hone ?_))
   rw [HW1.out]
   clear hrange hb1 HW1
   go_upto_region 8 with fail
   rw [HW2.out]
   clear b4 f4 HW2
   by_cases q15 : q = 15
   ·subst q15
    clear HD
    go_wp2
    go_roundg (n - (k + 1))
    case rel => exact ⟨k + 1, E, M, R, G, rk, rfl, by omega, by go_num, HG2.out, HK2.out⟩
    case measure => omega
   ·have n15 : ((q : Int) == 15) = false := by simp; omega
    have n15' : ((q : Int) != 15) = true := by simp; omega
    go_upto_region 9 with fail
    go_wp2_with (refine wpList_load_row rfl 72 _ rfl N rfl 72 cs2 (0, 0) _ hB2 Tryz.underlying72 rfl (zc2 _ hsz2) ?_)
    refine HD.out.mono ?_
    rintro e w3 ⟨rfl, E', M', R', G', rk', h2, hI, hG', hK3⟩
    have HG3 : Hid (Grown (fun k => k < w.heap.size) E' w3 p r M' R' G' rk' 300) := ⟨h2, hI, hG'.limit.trans HG2.out.lim, hG'.le HG2.out.le⟩
    have HK3 : Hid (Kept (fun k => k < w.heap.size) w w3) := HK2.out.trans hK3
    clear HD h2 hI hG' hK3 HG2 HK2 e0 hB2
    go_wp2
    go_roundg (n - (k + 1))
    case rel => exact ⟨k + 1, E', M', R', G', rk', rfl, by omega, by go_num, HG3.out, HK3.out⟩
    case measure => omega
  ·have hkn : n = k := by omega
   subst hkn
   clear hG hK
   go_wp2
   go_ret2
   exact ⟨p, r, E, M, R, G, rk, rfl, HG.out, HK.out⟩
end
open Go.RowKit in
theorem zol (n : Nat) (hnn : 60 < n) (a : Option Addr) (c : Nat) (w : World) :
  Calls Tryz.prog 16 #[.slice a n c] w fun e w' => e = .returned (.bool true) /\ Kept (fun k => k < w.heap.size) w w' := by
 have hg60 : decide ((n : Int) > 60) = true := decide_eq_true (by omega)
 go_enter Tryz.func16, Tryz.ntmps16
 go_wp2
 go_ret
 exact ⟨rfl, Kept.refl _ _⟩
end
section
open Go.ChangeShapes Go.WideShapes Go.ChangeAt Go.RowKit
set_option linter.unusedVariables false
set_option maxRecDepth 100000
theorem zp0 {H : Type} {enc : TypeId × Value -> H} {W : World} {fuel : Nat} {cs : List Value} {d : DataW H} {pl : List MemPlace} (hlen : cs.length = 2) (h : DataW.trod enc Tryz.prog W 0 (fun _ => true) true fuel 41 cs = some (d, pl)) :
  ∃ (sr : Bool) (la : Option Addr) (lc : Nat) (l : List Int), cs = [.bool sr, .slice la l.length lc] /\ Za8 (fun k => k < W.heap.size) W la l /\ l.length <= lc /\ l.length + 1 <= Rows.uptoBulk d /\ ∀ z ∈ l, IntKind.i64.min <= z /\ z <= IntKind.i64.max := by
 obtain ⟨xs, m, _, hxy, _, hxl, hf⟩ := DataW.trod_struct Tryz.underlying41 h
 match xs, hxl, cs, hlen with
 | [y0, y1], _, [v0, v1], _ =>
  have t0 : DataW.trod enc Tryz.prog W 0 (fun _ => true) true m 4 (([v0, v1].drop 0).take (Tryz.prog.cellsOf 4)) = [y0, y1][0]? := hf 0 _ rfl
  have t1 : DataW.trod enc Tryz.prog W 0 (fun _ => true) true m 23 (([v0, v1].drop 1).take (Tryz.prog.cellsOf 23)) = [y0, y1][1]? := hf 1 _ rfl
  rw [zuz] at t0
  rw [ztx] at t1
  have t0 : DataW.trod enc Tryz.prog W 0 (fun _ => true) true m 4 [v0] = some y0 := t0
  have t1 : DataW.trod enc Tryz.prog W 0 (fun _ => true) true m 23 [v1] = some y1 := t1
  have hd : d = .agg [y0.1, y1.1] := by
   have := congrArg Prod.fst hxy
   simpa using this
  obtain ⟨b0, e0, _⟩ := DataW.trod_bool Tryz.underlying4 t0
  obtain ⟨la, lc, li, rfl, hL, hlc, hb1, hli⟩ := zi3 (d := y1.1) (pl := y1.2) t1
  injection e0 with e0
  subst e0
  refine ⟨b0, la, lc, li, rfl, hL, hlc, ?_, hli⟩
  rw [hd]
  have p0 := zbz y0.1
  simp only [Rows.uptoBulk, Rows.uptoBulkAll]
  omega
end
end Go.Proofs.YtikaheenjhdpmaaGreat
