/-
  Copies, as plain functions: what is made, how many nodes that takes, and that all that was there stays as it was.
-/
import Derived.Test.YtfeinppedejlpaaGreatNW32
namespace Go.Proofs.YtfeinppedejlpaaGreat
open Go.RowKit
set_option linter.unusedVariables false
structure Sta where
 M : Dm
 R : Nat -> List Nat
 G : Nat -> List Nat
def Sta.ok (s : Sta) : Prop := ∃ rk, Inv s.M s.R s.G rk
def Sta.mk1 (s : Sta) (x : Nd) : Sta :=
 if x.content = -1 then ⟨s.M.add x.mk'.nd, zax s.R s.M.n [], zax s.G s.M.n []⟩
 else ⟨s.M.addT x.mk'.nd, zax (zax s.R s.M.n []) (s.M.n + 1) [], zax (zax s.G s.M.n []) (s.M.n + 1) []⟩
def Sta.rt (s : Sta) (h : Nat) (f : Fg) : Sta := ⟨s.M.addR h f, zax s.R s.M.n [], zax s.G s.M.n []⟩
def Sta.put (s : Sta) (up i : Nat) : Sta := ⟨s.M.setP (zd8 s.M s.R up i (-1)), zdl s.M s.R up i (-1), s.G⟩
def copies (cp : Sta -> Nat -> Sta × Nat) (tg : Nat) : List Nat -> Sta -> Sta
 | [], s => s
 | k :: l, s => copies cp tg l ((cp s k).1.put tg (cp s k).2)
def clon (M : Dm) (x : Nd) : Bool := decide (x.shadow ≠ -1) && (M.nd x.shadow.toNat).fl.e
def zbd (cp : Sta -> Nat -> Sta × Nat) (s : Sta) (i : Nat) : Sta :=
 if clon s.M (s.M.nd i) = true then copies cp (s.mk1 (s.M.nd i)).M.n (s.R (s.M.nd i).shadow.toNat) ((s.mk1 (s.M.nd i)).rt s.M.n (s.M.nd (s.M.nd i).shadow.toNat).fl) else s.mk1 (s.M.nd i)
def zbt (cp : Sta -> Nat -> Sta × Nat) (s : Sta) (i : Nat) : Sta :=
 if (s.M.nd i).content = -1 then zbd cp s i else copies cp (s.M.n + 1) (s.R (s.M.nd i).content.toNat) (zbd cp s i)
def zdm (cp : Sta -> Nat -> Sta × Nat) (s : Sta) (i : Nat) (deep : Bool) : Sta :=
 if deep = true then copies cp s.M.n (s.R i) (zbt cp s i) else zbd cp s i
def zcm : Nat -> Sta -> Nat -> Bool -> Sta × Nat
 | 0, s, _, _ => (s, 0)
 | f + 1, s, i, deep => (zdm (fun s k => zcm f s k true) s i deep, s.M.n)
def needs (nf : Nat -> Nat) (l : List Nat) : Nat := (l.map nf).sum
def zbh (M : Dm) (R : Nat -> List Nat) (nf : Nat -> Nat) (i : Nat) : Nat :=
 1 + (if (M.nd i).content = -1 then 0 else 1) + (if clon M (M.nd i) = true then 1 + needs nf (R (M.nd i).shadow.toNat) else 0)
def za8 (M : Dm) (R : Nat -> List Nat) (nf : Nat -> Nat) (i : Nat) : Nat :=
 zbh M R nf i + (if (M.nd i).content = -1 then 0 else needs nf (R (M.nd i).content.toNat))
def zb8 (M : Dm) (R : Nat -> List Nat) (nf : Nat -> Nat) (i : Nat) (deep : Bool) : Nat :=
 if deep = true then za8 M R nf i + needs nf (R i) else zbh M R nf i
def zba (M : Dm) (R : Nat -> List Nat) : Nat -> Nat -> Bool -> Nat
 | 0, _, _ => 0
 | f + 1, i, deep => zb8 M R (fun k => zba M R f k true) i deep
structure Keeps (b : Nat) (tg : Option Nat) (s s' : Sta) : Prop where
 n : s.M.n <= s'.M.n
 lim : s'.M.limit = s.M.limit
 nd : ∀ k, k < b -> s'.M.nd k = s.M.nd k
 up : ∀ k, k < b -> (s'.M.pl k).up = (s.M.pl k).up
 r : ∀ k, k < b -> tg ≠ some k -> s'.R k = s.R k
theorem Keeps.refl (b : Nat) (tg : Option Nat) (s : Sta) : Keeps b tg s s := ⟨Nat.le_refl _, rfl, fun _ _ => rfl, fun _ _ => rfl, fun _ _ _ => rfl⟩
theorem Keeps.trans {b : Nat} {tg : Option Nat} {s t u : Sta} (h : Keeps b tg s t) (k : Keeps b tg t u) : Keeps b tg s u :=
 ⟨Nat.le_trans h.n k.n, k.lim.trans h.lim, fun i hi => (k.nd i hi).trans (h.nd i hi), fun i hi => (k.up i hi).trans (h.up i hi), fun i hi hn => (k.r i hi hn).trans (h.r i hi hn)⟩
theorem Keeps.low {b b' : Nat} {tg : Option Nat} {s t : Sta} (h : Keeps b tg s t) (hb : b' <= b) : Keeps b' tg s t :=
 ⟨h.n, h.lim, fun i hi => h.nd i (by omega), fun i hi => h.up i (by omega), fun i hi => h.r i (by omega)⟩
theorem Keeps.none {b tg : Nat} {s t : Sta} (h : Keeps b (some tg) s t) (hb : b <= tg) : Keeps b none s t :=
 ⟨h.n, h.lim, h.nd, h.up, fun i hi _ => h.r i hi (fun e => by injection e with e; omega)⟩
structure Like (s' : Sta) (c : Nat) (x : Nd) : Prop where
 kind : (s'.M.nd c).kind = x.kind
 name : (s'.M.nd c).name = x.name
 data : (s'.M.nd c).data = x.data
 attrs : (s'.M.nd c).attrs = x.attrs
 cont : (s'.M.nd c).content = if x.content = -1 then -1 else ((c + 1 : Nat) : Int)
 up : (s'.M.pl c).up = -1
 c4 : x.content ≠ -1 -> (s'.M.nd (c + 1)).kind = 4
structure Mid (s : Sta) (x : Nd) (m : Nat) (s' : Sta) : Prop where
 ok : s'.ok
 keeps : Keeps s.M.n none s s'
 n : s'.M.n = s.M.n + m
 like : Like s' s.M.n x
 two : x.content ≠ -1 -> 2 <= m
 one : 1 <= m
section
variable {s : Sta} {x : Nd}
theorem zo1 : (s.mk1 x).M.n = s.M.n + (1 + if x.content = -1 then 0 else 1) := by
 unfold Sta.mk1
 by_cases c : x.content = -1
 ·rw [if_pos c, if_pos c]; rfl
 ·rw [if_neg c, if_neg c]; rfl
theorem zjo (M : Dm) (y : Nd) {k : Nat} (h : k < M.n) : (M.addT y).nd k = M.nd k /\ (M.addT y).pl k = M.pl k := by
 have n1 : (M.add y).n = M.n + 1 := rfl
 constructor
 ·rw [zcp M y (by omega) (by omega), zam _ _ (by rw [n1]; omega), zam _ _ (by omega)]
 ·rw [ziw, zb4 _ _ (by rw [n1]; omega), zb4 _ _ (by omega)]
theorem znj : Keeps s.M.n none s (s.mk1 x) := by
 refine ⟨by rw [zo1]; omega, ?_, fun k hk => ?_, fun k hk => ?_, fun k hk _ => ?_⟩ <;> (unfold Sta.mk1; by_cases c : x.content = -1)
 ·rw [if_pos c]; rfl
 ·rw [if_neg c]; rfl
 ·rw [if_pos c]; exact zam _ _ (by omega)
 ·rw [if_neg c]; exact (zjo _ _ hk).1
 ·rw [if_pos c]; exact congrArg Lk.up (zb4 _ _ (by omega))
 ·rw [if_neg c]; exact congrArg Lk.up (zjo _ _ hk).2
 ·rw [if_pos c]; exact zaj _ _ (by omega)
 ·rw [if_neg c]
  show zax (zax s.R s.M.n []) (s.M.n + 1) [] k = _
  rw [zaj _ _ (by omega), zaj _ _ (by omega)]
theorem zd9 : Like (s.mk1 x) s.M.n x /\ (s.mk1 x).R s.M.n = [] /\ ((s.mk1 x).M.nd s.M.n).shadow = -1 /\ ((s.mk1 x).M.nd s.M.n).host = -1 := by
 unfold Sta.mk1
 by_cases c : x.content = -1
 ·rw [if_pos c]
  have e : (s.M.add x.mk'.nd).nd s.M.n = x.mk'.nd.new := zav _ _
  refine ⟨⟨?_, ?_, ?_, ?_, ?_, ?_, fun h => absurd c h⟩, zaf _ _ _, ?_, ?_⟩
  ·show ((s.M.add x.mk'.nd).nd s.M.n).kind = _; rw [e]; rfl
  ·show ((s.M.add x.mk'.nd).nd s.M.n).name = _; rw [e]; rfl
  ·show ((s.M.add x.mk'.nd).nd s.M.n).data = _; rw [e]; rfl
  ·show ((s.M.add x.mk'.nd).nd s.M.n).attrs = _; rw [e]; rfl
  ·show ((s.M.add x.mk'.nd).nd s.M.n).content = _; rw [e, if_pos c]; rfl
  ·show ((s.M.add x.mk'.nd).pl s.M.n).up = _; rw [zej]; rfl
  ·show ((s.M.add x.mk'.nd).nd s.M.n).shadow = _; rw [e]; rfl
  ·show ((s.M.add x.mk'.nd).nd s.M.n).host = _; rw [e]; rfl
 ·rw [if_neg c]
  have n1 : (s.M.add x.mk'.nd).n = s.M.n + 1 := rfl
  have e : (s.M.addT x.mk'.nd).nd s.M.n = { x.mk'.nd.new with content := ((s.M.n + 1 : Nat) : Int) } := by
   rw [zfj, zam _ _ (by rw [n1]; omega), zav]
  refine ⟨⟨?_, ?_, ?_, ?_, ?_, ?_, fun _ => ?_⟩, ?_, ?_, ?_⟩
  ·show ((s.M.addT x.mk'.nd).nd s.M.n).kind = _; rw [e]; rfl
  ·show ((s.M.addT x.mk'.nd).nd s.M.n).name = _; rw [e]; rfl
  ·show ((s.M.addT x.mk'.nd).nd s.M.n).data = _; rw [e]; rfl
  ·show ((s.M.addT x.mk'.nd).nd s.M.n).attrs = _; rw [e]; rfl
  ·show ((s.M.addT x.mk'.nd).nd s.M.n).content = _; rw [e, if_neg c]
  ·show ((s.M.addT x.mk'.nd).pl s.M.n).up = _; rw [ziw, zb4 _ _ (by rw [n1]; omega), zej]; rfl
  ·show ((s.M.addT x.mk'.nd).nd (s.M.n + 1)).kind = 4; rw [zfl]; show (((s.M.add x.mk'.nd).add za4).nd (s.M.add x.mk'.nd).n).kind = 4; rw [zav]; rfl
  ·show zax (zax s.R s.M.n []) (s.M.n + 1) [] s.M.n = []
   rw [zaj _ _ (by omega), zaf]
  ·show ((s.M.addT x.mk'.nd).nd s.M.n).shadow = _; rw [e]; rfl
  ·show ((s.M.addT x.mk'.nd).nd s.M.n).host = _; rw [e]; rfl
theorem zq1 (hs : s.ok) {i : Nat} (hi : i < s.M.n) (h5 : (s.M.nd i).kind ≠ 5) : (s.mk1 (s.M.nd i)).ok := by
 obtain ⟨rk, h⟩ := hs
 have hsn := h.ex.snd i hi h5
 have hok : Znw (s.M.nd i).mk'.nd := zfc hsn
 have ht := h.ex.tpl i hi
 unfold Sta.mk1
 by_cases c : (s.M.nd i).content = -1
 ·rw [if_pos c]
  exact ⟨rk, h.add _ hok hok.few hsn (fun e => absurd c (ht.2 e)) (h.ex.nsz i hi) ⟨(h.ex.okd i hi).1, (h.ex.okd i hi).2.1, fun _ => rfl⟩⟩
 ·rw [if_neg c]
  obtain ⟨k1, k2⟩ := ht.1 c
  exact h.addT _ hok k1 hsn k2 ⟨(h.ex.okd i hi).1, (h.ex.okd i hi).2.1, fun _ => rfl⟩
theorem zg1 (hs : s.ok) {i : Nat} (hi : i < s.M.n) (h5 : (s.M.nd i).kind ≠ 5) : Mid s (s.M.nd i) (1 + if (s.M.nd i).content = -1 then 0 else 1) (s.mk1 (s.M.nd i)) :=
 ⟨zq1 hs hi h5, znj, zo1, zd9.1, fun h => by rw [if_neg h]; exact Nat.le_refl _, by omega⟩
theorem zoy {h b : Nat} (f : Fg) (hb : b <= h) (hh : h < s.M.n) : Keeps b none s (s.rt h f) := by
 refine ⟨Nat.le_succ _, rfl, fun k hk => ?_, fun k hk => ?_, fun k hk _ => zaj _ _ (by omega)⟩
 ·exact zdj s.M h f (by omega) (by omega)
 ·exact congrArg Lk.up (zbj _ _ (by omega) : (s.M.addR h f).pl k = s.M.pl k)
theorem zsd (hs : s.ok) {h : Nat} (f : Fg) (hh : h < s.M.n) (hk : (s.M.nd h).kind = 1) (h0 : (s.M.nd h).shadow = -1) : (s.rt h f).ok := by
 obtain ⟨rk, hI⟩ := hs
 exact hI.addR f hh hk h0
theorem zmv {h : Nat} (f : Fg) (hh : h < s.M.n) : (s.rt h f).M.n = s.M.n + 1 /\ (s.rt h f).M.nd s.M.n = { (shN f).new with host := (h : Int) } /\ (s.rt h f).M.nd h = { s.M.nd h with shadow := (s.M.n : Int) } /\ (∀ k, k < s.M.n -> k ≠ h -> (s.rt h f).M.nd k = s.M.nd k) /\ (s.rt h f).R s.M.n = [] /\ (∀ k, k < s.M.n -> (s.rt h f).M.pl k = s.M.pl k) /\ (∀ k, k < s.M.n -> (s.rt h f).R k = s.R k) :=
 ⟨rfl, zeb s.M h f (by omega), zc0 s.M h f (by omega), fun k hk hn => zdj s.M h f (by omega) hn, zaf _ _ _, fun k hk => zbj _ _ (by omega), fun k hk => zaj _ _ (by omega)⟩
theorem Mid.rt {m : Nat} {s' : Sta} (h : Mid s x m s') (f : Fg) (h1 : x.kind = 1) (h0 : (s'.M.nd s.M.n).shadow = -1) : Mid s x (m + 1) (s'.rt s.M.n f) := by
 have hlt : s.M.n < s'.M.n := by have := h.n; have := h.one; omega
 obtain ⟨e1, e2, e3, e4, e5, e6, e7⟩ := zmv (s := s') f hlt
 refine ⟨zsd h.ok f hlt (by rw [h.like.kind]; exact h1) h0, h.keeps.trans (zoy f (Nat.le_refl _) hlt), by rw [e1, h.n]; omega, ⟨?_, ?_, ?_, ?_, ?_, ?_, fun hc => ?_⟩, fun hc => by have := h.two hc; omega, by omega⟩
 ·rw [e3]; exact h.like.kind
 ·rw [e3]; exact h.like.name
 ·rw [e3]; exact h.like.data
 ·rw [e3]; exact h.like.attrs
 ·rw [e3]; exact h.like.cont
 ·rw [e6 _ hlt]; exact h.like.up
 ·rw [e4 _ (by have := h.n; have := h.two hc; omega) (by omega)]; exact h.like.c4 hc
theorem Keeps.wi {s s' : Sta} (h : Keeps s.M.n Option.none s s') (hs : s.ok) {c t : Nat} (hc : s.M.n <= c) (hw : Wi s'.M c t) : ¬ t < s.M.n := by
 obtain ⟨rk, hI⟩ := hs
 induction hw with
 | here => omega
 | @up k m e _ ih =>
  intro hk
  have ep : zbl s'.M k = zbl s.M k := zgw (h.up k hk) (by rw [h.nd k hk])
  rw [ep] at e
  rcases hI.good.acy k hk with e' | ⟨m', hm, e', -⟩
  ·omega
  ·have : m' = m := by omega
   subst this
   exact ih hm
theorem zq9 {up i : Nat} (h4 : (s.M.nd i).kind ≠ 4) (hu : (s.M.pl i).up = -1) : (s.put up i).R = zax s.R up (s.R up ++ [i]) /\ (∀ k, k ≠ i -> ((s.put up i).M.pl k).up = (s.M.pl k).up) := by
 constructor
 ·show zdl s.M s.R up i (-1) = _
  unfold zdl
  rw [if_neg h4, if_neg (by omega), zl4 hu]
 ·intro k hk
  show (zd8 s.M s.R up i (-1) k).up = _
  unfold zd8
  rw [if_neg h4, if_neg (by omega), zd5 hk]
theorem zrl (hs : s.ok) {up i : Nat} (hu : up < s.M.n) (hi : i < s.M.n) (hF : Fits s.M up i (-1)) : (s.put up i).ok := by
 obtain ⟨rk, hI⟩ := hs
 exact hI.ins hu hi hF
end
structure Done (s : Sta) (i m : Nat) (q : Sta × Nat) : Prop where
 mid : Mid s (s.M.nd i) m q.1
 c : q.2 = s.M.n
theorem Done.fits {s : Sta} {k m tg : Nat} {q : Sta × Nat} (hs : s.ok) (h : Done s k m q) (ht : tg < s.M.n) (hh : zbp (s.M.nd tg) = true) (h4 : (s.M.nd k).kind ≠ 4) (h5 : (s.M.nd k).kind ≠ 5) : tg < q.1.M.n /\ q.2 < q.1.M.n /\ Fits q.1.M tg q.2 (-1) := by
 have hn := h.mid.n
 have h1 := h.mid.one
 rw [h.c]
 refine ⟨by omega, by omega, by rw [h.mid.keeps.nd tg ht]; exact hh, ?_, fun hw => h.mid.keeps.wi hs (Nat.le_refl _) hw ht, .inl rfl⟩
 unfold zfx
 rw [h.mid.like.kind]
 simp [h4, h5]
 omega
structure Zoh (s : Sta) (tg : Nat) (l : List Nat) (m : Nat) (s' : Sta) : Prop where
 ok : s'.ok
 keeps : Keeps s.M.n (some tg) s s'
 n : s'.M.n = s.M.n + m
 len : (s'.R tg).length = (s.R tg).length + l.length
section
variable {M0 : Dm} {R0 G0 : Nat -> List Nat} {rk0 : Nat -> Nat} {cp : Sta -> Nat -> Sta × Nat} {nf : Nat -> Nat}
abbrev Old (M0 : Dm) (R0 G0 : Nat -> List Nat) (s : Sta) : Prop := Keeps M0.n none ⟨M0, R0, G0⟩ s
def Lev (M0 : Dm) (R0 G0 : Nat -> List Nat) (rk0 : Nat -> Nat) (i : Nat) (cp : Sta -> Nat -> Sta × Nat) (nf : Nat -> Nat) : Prop :=
 ∀ k, k < M0.n -> rk0 i < rk0 k -> (M0.nd k).kind ≠ 5 -> ∀ s, Old M0 R0 G0 s -> s.ok -> s.M.n + nf k <= M0.limit -> Done s k (nf k) (cp s k)
theorem Zoh.refl {s : Sta} {tg : Nat} (hs : s.ok) : Zoh s tg [] 0 s := ⟨hs, .refl _ _ _, rfl, rfl⟩
theorem Old.next {s t : Sta} {tg : Nat} (h : Old M0 R0 G0 s) (k : Keeps s.M.n (some tg) s t) (ht : M0.n <= tg) : Old M0 R0 G0 t :=
 h.trans ((k.low h.n).none ht)
theorem zbn (i : Nat) (hL : Lev M0 R0 G0 rk0 i cp nf) (tg : Nat) (ht : M0.n <= tg) : ∀ (l : List Nat) (s : Sta), (∀ k ∈ l, k < M0.n /\ rk0 i < rk0 k /\ (M0.nd k).kind ≠ 4 /\ (M0.nd k).kind ≠ 5) -> Old M0 R0 G0 s -> s.ok -> tg < s.M.n -> zbp (s.M.nd tg) = true -> s.M.n + needs nf l <= M0.limit -> Zoh s tg l (needs nf l) (copies cp tg l s)
 | [], s, _, _, hs, _, _, _ => .refl hs
 | k :: l, s, hl, ho, hs, htn, hh, hr => by
  obtain ⟨hk, hrk, k4, k5⟩ := hl k (List.mem_cons_self ..)
  have hsum : needs nf (k :: l) = nf k + needs nf l := by unfold needs; rw [List.map_cons, List.sum_cons]
  have ek : s.M.nd k = M0.nd k := ho.nd k hk
  have hd := hL k hk hrk k5 s ho hs (by omega)
  obtain ⟨f1, f2, f3⟩ := hd.fits hs htn hh (by rw [ek]; exact k4) (by rw [ek]; exact k5)
  have hm := hd.mid
  have hc := hd.c
  have hc4 : ((cp s k).1.M.nd (cp s k).2).kind ≠ 4 := by rw [hc, hm.like.kind, ek]; exact k4
  obtain ⟨p1, p2⟩ := zq9 (up := tg) hc4 (by rw [hc]; exact hm.like.up)
  have hok := zrl hm.ok f1 f2 f3
  have hkp : Keeps s.M.n (some tg) s ((cp s k).1.put tg (cp s k).2) := by
   refine ⟨hm.keeps.n, hm.keeps.lim, hm.keeps.nd, fun j hj => ?_, fun j hj hne => ?_⟩
   ·rw [p2 j (by rw [hc]; omega)]; exact hm.keeps.up j hj
   ·rw [p1, zaj _ _ (fun e => hne (by rw [e]))]
    exact hm.keeps.r j hj (fun e => by cases e)
  have hn1 : ((cp s k).1.put tg (cp s k).2).M.n = s.M.n + nf k := hm.n
  have ih := zbn i hL tg ht l ((cp s k).1.put tg (cp s k).2) (fun j hj => hl j (List.mem_cons_of_mem _ hj)) (ho.next hkp ht) hok (by omega) (by
   show zbp ((cp s k).1.M.nd tg) = true
   rw [hm.keeps.nd tg htn]; exact hh) (by omega)
  refine ⟨ih.ok, hkp.trans (ih.keeps.low (by omega)), by rw [hsum]; exact ih.n.trans (by omega), ?_⟩
  have := ih.len
  rw [p1, zaf, List.length_append, List.length_singleton] at this
  rw [hm.keeps.r tg htn (fun e => by cases e)] at this
  show ((copies cp tg l ((cp s k).1.put tg (cp s k).2)).R tg).length = _
  rw [this, List.length_cons]
  omega
theorem zen (tg : Nat) : ∀ (l l' : List Nat) (s : Sta), copies cp tg (l ++ l') s = copies cp tg l' (copies cp tg l s)
 | [], l', s => rfl
 | k :: l, l', s => zen tg l l' _
theorem zdz (l l' : List Nat) : needs nf (l ++ l') = needs nf l + needs nf l' := by
 unfold needs; rw [List.map_append, List.sum_append]
theorem Mid.more {s s' s'' : Sta} {x : Nd} {m m' tg : Nat} {l : List Nat} (h : Mid s x m s') (k : Zoh s' tg l m' s'') (ht : s.M.n <= tg) : Mid s x (m + m') s'' := by
 have hn := h.n
 have h1 := h.one
 refine ⟨k.ok, h.keeps.trans ((k.keeps.low (by omega)).none ht), by rw [k.n]; omega, ⟨?_, ?_, ?_, ?_, ?_, ?_, fun hc => ?_⟩, fun hc => by have := h.two hc; omega, by omega⟩
 ·rw [k.keeps.nd _ (by omega)]; exact h.like.kind
 ·rw [k.keeps.nd _ (by omega)]; exact h.like.name
 ·rw [k.keeps.nd _ (by omega)]; exact h.like.data
 ·rw [k.keeps.nd _ (by omega)]; exact h.like.attrs
 ·rw [k.keeps.nd _ (by omega)]; exact h.like.cont
 ·rw [k.keeps.up _ (by omega)]; exact h.like.up
 ·rw [k.keeps.nd _ (by have := h.two hc; omega)]; exact h.like.c4 hc
theorem Inv.kidsOf {M : Dm} {R G : Nat -> List Nat} {rk : Nat -> Nat} (h : Inv M R G rk) {i u : Nat} (hu : u < M.n) (hr : i = u \/ rk i < rk u) : ∀ k ∈ R u, k < M.n /\ rk i < rk k /\ (M.nd k).kind ≠ 4 /\ (M.nd k).kind ≠ 5 := fun k hk => by
 obtain ⟨h1, -, h3⟩ := h.good.kid hu hk
 refine ⟨h1, ?_, (h.ex.kid u hu k hk).2⟩
 rcases hr with rfl | hr <;> omega
theorem Inv.content {M : Dm} {R G : Nat -> List Nat} {rk : Nat -> Nat} (h : Inv M R G rk) {i : Nat} (hi : i < M.n) (hc : (M.nd i).content ≠ -1) : ∃ k : Nat, k < M.n /\ (M.nd i).content = (k : Int) /\ (M.nd k).kind = 4 /\ (M.nd k).host = (i : Int) /\ (M.pl k).up = -1 /\ rk i < rk k /\ (M.nd k).shadow = -1 /\ (M.nd k).content = -1 := by
 rcases h.core.cont i hi with e | ⟨k, hk, e, -, h4, hh⟩
 ·exact absurd e hc
 ·have hup : (M.pl k).up = -1 := by
   rcases h.core.host k hk with ⟨h1, -⟩ | ⟨q, -, -, h2, -⟩
   ·omega
   ·exact h2
  refine ⟨k, hk, e, h4, hh, hup, ?_, ?_, ?_⟩
  ·have hp : zbl M k = (i : Int) := by unfold zbl; rw [if_pos hup]; exact hh
   rcases h.good.acy k hk with e' | ⟨m, -, e', hr⟩
   ·omega
   ·have : m = i := by omega
    exact this ▸ hr
  ·rcases h.core.shad k hk with e' | ⟨q, -, -, h1, -⟩
   ·exact e'
   ·omega
  ·rcases h.core.cont k hk with e' | ⟨q, -, -, h1, -⟩
   ·exact e'
   ·omega
theorem Inv.noShadow {M : Dm} {R G : Nat -> List Nat} {rk : Nat -> Nat} (h : Inv M R G rk) {k : Nat} (hk : k < M.n) (h1 : (M.nd k).kind ≠ 1) : (M.nd k).shadow = -1 /\ (M.nd k).content = -1 := by
 constructor
 ·rcases h.core.shad k hk with e' | ⟨q, -, -, h1', -⟩
  ·exact e'
  ·omega
 ·rcases h.core.cont k hk with e' | ⟨q, -, -, h1', -⟩
  ·exact e'
  ·omega
theorem zoz (x : Nd) (h : x.kind = 5) : zbp x = true := by unfold zbp; rw [h]; rfl
theorem zop (x : Nd) (h : x.kind = 4) : zbp x = true := by unfold zbp; rw [h]; rfl
theorem zi3 {M : Dm} {R G : Nat -> List Nat} {rk : Nat -> Nat} (h : Inv M R G rk) {i : Nat} (hi : i < M.n) (hc : clon M (M.nd i) = true) : ∃ q : Nat, q < M.n /\ (M.nd i).shadow = (q : Int) /\ (M.nd i).kind = 1 /\ rk i < rk q /\ (M.nd q).fl.e = true /\ (M.nd q).kind = 5 := by
 unfold clon at hc
 rw [Bool.and_eq_true, decide_eq_true_eq] at hc
 rcases h.core.shad i hi with e | ⟨q, hq, e, h1, -⟩
 ·exact absurd e hc.1
 ·have := h.shadow hi e
  refine ⟨q, hq, e, h1, this.2.2.2.2.1, ?_, this.2.1⟩
  have := hc.2
  rw [e, Int.toNat_natCast] at this
  exact this
theorem zj1 (hI : Inv M0 R0 G0 rk0) {i : Nat} (hi : i < M0.n) (h5 : (M0.nd i).kind ≠ 5) {s : Sta} (ho : Old M0 R0 G0 s) (hs : s.ok) (hc : clon M0 (M0.nd i) = true) : ∃ q : Nat, q < M0.n /\ (M0.nd i).shadow = (q : Int) /\ rk0 i < rk0 q /\ Mid s (s.M.nd i) (1 + (if (M0.nd i).content = -1 then 0 else 1) + 1) ((s.mk1 (s.M.nd i)).rt s.M.n (M0.nd q).fl) := by
 obtain ⟨q, hq, e, h1, hr, -, -⟩ := zi3 hI hi hc
 have ei : s.M.nd i = M0.nd i := ho.nd i hi
 have hin : i < s.M.n := ltl hi ho.n
 have hm := zg1 hs hin (by rw [ei]; exact h5)
 have hm2 := hm.rt (M0.nd q).fl (by rw [ei]; exact h1) zd9.2.2.1
 rw [ei] at hm2 ⊢
 exact ⟨q, hq, e, hr, hm2⟩
section
variable (hI : Inv M0 R0 G0 rk0) {i : Nat} (hi : i < M0.n) (h5 : (M0.nd i).kind ≠ 5) (hL : Lev M0 R0 G0 rk0 i cp nf) {s : Sta} (ho : Old M0 R0 G0 s) (hs : s.ok)
include hI hi h5 hL ho hs
theorem zlt (hr : s.M.n + zbh M0 R0 nf i <= M0.limit) : Mid s (s.M.nd i) (zbh M0 R0 nf i) (zbd cp s i) := by
 have ei : s.M.nd i = M0.nd i := ho.nd i hi
 have hin : i < s.M.n := ltl hi ho.n
 have hm := zg1 hs hin (by rw [ei]; exact h5)
 have hcl : clon s.M (s.M.nd i) = clon M0 (M0.nd i) := by
  rw [ei]; unfold clon
  by_cases c : (M0.nd i).shadow = -1
  ·simp [c]
  ·rcases hI.core.shad i hi with e | ⟨q, hq, e, -⟩
   ·exact absurd e c
   ·rw [e, Int.toNat_natCast, ho.nd q hq]
 unfold zbd zbh
 unfold zbh at hr
 by_cases hc : clon M0 (M0.nd i) = true
 ·rw [hcl, if_pos hc, if_pos hc]
  rw [if_pos hc] at hr
  obtain ⟨q, hq, e, hrq, hm2⟩ := zj1 hI hi h5 ho hs hc
  rw [ei] at hm2 ⊢
  rw [e, Int.toNat_natCast] at hr ⊢
  have e1 : (s.mk1 (M0.nd i)).M.n = s.M.n + (1 + if (M0.nd i).content = -1 then 0 else 1) := zo1
  have hlt : s.M.n < (s.mk1 (M0.nd i)).M.n := by omega
  obtain ⟨r1, r2, r3, r4, r5, r6, r7⟩ := zmv (s := s.mk1 (M0.nd i)) (M0.nd q).fl hlt
  rw [ho.nd q hq, ho.r q hq (fun e => by cases e)]
  have hn2 := hm2.n
  have hdk := zbn i hL (s.mk1 (M0.nd i)).M.n (by have := ho.n; show M0.n <= _; have : M0.n <= s.M.n := ho.n; omega) (R0 q) ((s.mk1 (M0.nd i)).rt s.M.n (M0.nd q).fl) (hI.kidsOf hq (.inr hrq)) (ho.trans (hm2.keeps.low ho.n)) hm2.ok (by rw [r1]; omega) (by rw [r2]; exact zoz _ rfl) (by rw [hn2]; omega)
  have := hm2.more hdk (by omega)
  rw [show 1 + (if (M0.nd i).content = -1 then 0 else 1) + (1 + needs nf (R0 q)) = 1 + (if (M0.nd i).content = -1 then 0 else 1) + 1 + needs nf (R0 q) by omega]
  exact this
 ·rw [hcl, if_neg hc, if_neg hc]
  rw [ei] at hm ⊢
  exact hm
theorem zo7 (hr : s.M.n + za8 M0 R0 nf i <= M0.limit) : Mid s (s.M.nd i) (za8 M0 R0 nf i) (zbt cp s i) := by
 have ei : s.M.nd i = M0.nd i := ho.nd i hi
 have hS := zlt hI hi h5 hL ho hs (by unfold za8 at hr; omega)
 unfold zbt za8
 unfold za8 at hr
 by_cases c : (M0.nd i).content = -1
 ·rw [ei, if_pos c, if_pos c]; rw [ei] at hS; exact hS
 ·obtain ⟨q, hq, e, h4, -, -, hrq, -⟩ := hI.content hi c
  have hS' := hS
  rw [if_neg c, e, Int.toNat_natCast] at hr
  rw [ei] at hS ⊢
  rw [if_neg c, if_neg c, e, Int.toNat_natCast, ho.r q hq (fun e => by cases e)]
  have h2 := hS.two c
  have hn := hS.n
  have hdk := zbn i hL (s.M.n + 1) (by have : M0.n <= s.M.n := ho.n; omega) (R0 q) (zbd cp s i) (hI.kidsOf hq (.inr hrq)) (ho.trans (hS.keeps.low ho.n)) hS.ok (by omega) (zop _ (hS.like.c4 c)) (by omega)
  exact hS.more hdk (by omega)
theorem zse {deep : Bool} (hr : s.M.n + zb8 M0 R0 nf i deep <= M0.limit) : Mid s (s.M.nd i) (zb8 M0 R0 nf i deep) (zdm cp s i deep) := by
 have ei : s.M.nd i = M0.nd i := ho.nd i hi
 cases deep with
 | false => exact zlt hI hi h5 hL ho hs hr
 | true =>
  have hr' : s.M.n + (za8 M0 R0 nf i + needs nf (R0 i)) <= M0.limit := hr
  have hC := zo7 hI hi h5 hL ho hs (by omega)
  show Mid s (s.M.nd i) (za8 M0 R0 nf i + needs nf (R0 i)) (copies cp s.M.n (s.R i) (zbt cp s i))
  rw [ho.r i hi (fun e => by cases e)]
  have hn := hC.n
  have h1 := hC.one
  by_cases c : R0 i = []
  ·show Mid s (s.M.nd i) (za8 M0 R0 nf i + needs nf (R0 i)) (copies cp s.M.n (R0 i) (zbt cp s i))
   rw [c]
   exact hC
  ·have hh : zbp (M0.nd i) = true := by
    obtain ⟨k, hk⟩ := List.exists_mem_of_ne_nil _ c
    exact (hI.ex.kid i hi k hk).1
   have hdk := zbn i hL s.M.n ho.n (R0 i) (zbt cp s i) (hI.kidsOf hi (.inl rfl)) (ho.trans (hC.keeps.low ho.n)) hC.ok (by omega) (by
    unfold zbp at hh ⊢
    rw [hC.like.kind, hC.like.name, ei]; exact hh) (by omega)
   exact hC.more hdk (Nat.le_refl _)
end
theorem ze8 (hI : Inv M0 R0 G0 rk0) : ∀ (f i : Nat), dn M0.n rk0 i < f -> i < M0.n -> (M0.nd i).kind ≠ 5 -> ∀ (s : Sta) (deep : Bool), Old M0 R0 G0 s -> s.ok -> s.M.n + zba M0 R0 f i deep <= M0.limit -> Done s i (zba M0 R0 f i deep) (zcm f s i deep)
 | 0, i, h, _, _, _, _, _, _, _ => absurd h (Nat.not_lt_zero _)
 | f + 1, i, hf, hi, h5, s, deep, ho, hs, hr =>
  ⟨zse hI hi h5 (cp := fun s k => zcm f s k true) (nf := fun k => zba M0 R0 f k true) (fun k hk hrk k5 s ho hs hr => ze8 hI f k (by have := zfy hk hrk; omega) hk k5 s true ho hs hr) ho hs hr, rfl⟩
theorem zmk (hI : Inv M0 R0 G0 rk0) {f i : Nat} (hf : dn M0.n rk0 i < f + 1) : Lev M0 R0 G0 rk0 i (fun s k => zcm f s k true) (fun k => zba M0 R0 f k true) :=
 fun k hk hrk k5 s ho hs hr => ze8 hI f k (by have := zfy hk hrk; omega) hk k5 s true ho hs hr
end
end Go.Proofs.YtfeinppedejlpaaGreat
