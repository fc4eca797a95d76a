/-
  The copier, counting and copying, as a whole.
-/
import Derived.Test.YtfeinppedejlpaaGreatNCx
import Derived.Test.YtfeinppedejlpaaGreatNCq
import Derived.Test.YtfeinppedejlpaaGreatNR2
namespace Go.Proofs.YtfeinppedejlpaaGreat
set_option linter.unusedVariables false
set_option maxRecDepth 100000
set_option maxHeartbeats 8000000
open Go.RowKit
theorem DX.but {K : Nat -> Prop} {w w' : World} {p b : Nat} {M : Dm} (h : DX K w p M) (hb : K b) (hk : Kept (fun k => k < w.heap.size /\ k ≠ b) w w') : DX K w' p M :=
 h.move (fun g hg hn => hk.block g ⟨hg, fun e => hn (e ▸ hb)⟩) (fun k _ h => h) (fun k hk' => ltl (h.lt k hk') hk.size)
theorem Znc.but {B b : Nat} {V X : World} {ko : Option Addr} {l : List Nat} {K : Nat -> Prop} (h : Znc B V ko l) (hK : ∀ g, B <= g -> g < V.heap.size -> K g) (hk : Kept K V X) : Znc B X ko l := fun j hj => by
 obtain ⟨g, e, h1, h2, h3⟩ := h j hj
 exact ⟨g, e, h1, ltl h2 hk.size, (hk.cell (p := ⟨g, j, none⟩) (hK g h1 h2)).trans h3⟩
theorem zc9 (nf : Nat -> Nat) (l : List Nat) (j : Nat) (hj : j < l.length) : needs nf (l.take (j + 1)) = needs nf (l.take j) + nf l[j] := by
 rw [List.take_succ_eq_append_getElem hj, zdz]
 unfold needs
 simp
theorem zbq (nf : Nat -> Nat) (l : List Nat) (j : Nat) : needs nf (l.take j) <= needs nf l := by
 have := zdz (nf := nf) (l.take j) (l.drop j)
 rw [List.take_append_drop] at this
 omega
section
variable {M : Dm} {R G : Nat -> List Nat} {rk : Nat -> Nat} {K : Nat -> Prop} {b p : Nat}
def Zh3 (b p : Nat) (w : World) (n : Nat) (w' : World) : Prop := Cop w' b p true n /\ Kept (fun k => k < w.heap.size /\ k ≠ b) w w'
theorem Zh3.next {w X Y : World} {n m : Nat} (h : Zh3 b p w n X) (k : Zh3 b p X m Y) : Zh3 b p w m Y :=
 ⟨k.1, h.2.trans (k.2.mono fun k hk => ⟨ltl hk.1 h.2.size, hk.2⟩)⟩
theorem zeq (hI : Inv M R G rk) (hn : M.n <= 100000) (hb : K b) (nf : Nat -> Nat) (u : Nat) (hu : u < M.n) (tz : Int) (n : Nat) (hN : n + needs nf (R u) <= 1000000)
  (ih : ∀ k ∈ R u, ∀ n w, DX K w p M -> Cop w b p true n -> n + nf k <= 1000000 -> Calls Tryz.prog 116 #[.pointer (some ⟨b, 0, none⟩), .int .i64 (k : Int), .bool true] w fun e w' => e = .returned (.int .i64 (-1)) /\ Zh3 b p w (n + nf k) w')
  (w : World) (hX : DX K w p M) (hC : Cop w b p true n) :
  Calls Tryz.prog 190 #[.pointer (some ⟨b, 0, none⟩), .int .i64 (u : Int), .int .i64 tz] w fun e w' => e = .returned (.tuple #[]) /\ Zh3 b p w (n + needs nf (R u)) w' := by
 have hbw := hC.lt
 refine zjq b p u (R u).length tz (R u) rfl (by have := hI.good.wf.len_le hu; omega) (M.nd u) (M.pl u).up w _ hC.c0 (zb2 K p u M R w hX hI.good.wf hu (by omega) hI.good.few) fun V ko hkV hnew => ⟨fun j X => Zh3 b p V (n + needs nf ((R u).take j)) X, ?_, fun j hj X hIX => ?_, fun Z hIZ => ?_⟩
 ·exact ⟨by simpa [needs] using hC.kept hkV hC.lt, Kept.refl _ _⟩
 ·have hlt : n + needs nf ((R u).take j) + nf (R u)[j] <= 1000000 := by
   have h1 := zc9 nf (R u) j hj
   have h2 := zbq nf (R u) (j + 1)
   omega
  refine ⟨hnew.but (b := b) (fun g h1 h2 => ⟨h2, by omega⟩) hIX.2, (ih _ (List.getElem_mem hj) _ X ((hX.kept hkV).but hb hIX.2) hIX.1 hlt).mono ?_⟩
  rintro e Y ⟨rfl, hY⟩
  refine ⟨-1, rfl, (zl8 tz (-1) b p _ Y hY.1).mono ?_⟩
  rintro e Z ⟨rfl, rfl⟩
  exact ⟨rfl, by show Zh3 b p V (n + needs nf ((R u).take (j + 1))) _; rw [zc9 nf (R u) j hj, <- Nat.add_assoc]; exact hIX.next hY⟩
 ·have hIZ : Zh3 b p V (n + needs nf ((R u).take (R u).length)) Z := hIZ
  rw [List.take_length] at hIZ
  exact ⟨hIZ.1, hkV.mono (fun k h => h.1) |>.trans (hIZ.2.mono fun k h => ⟨ltl h.1 hkV.size, h.2⟩)⟩
theorem zhv (hI : Inv M R G rk) (hn : M.n <= 100000) (hb : K b) : ∀ (f i : Nat), dn M.n rk i < f -> i < M.n -> ∀ (deep : Bool) (n : Nat) (w : World), DX K w p M -> Cop w b p true n -> n + zba M R f i deep <= 1000000 ->
  Calls Tryz.prog 116 #[.pointer (some ⟨b, 0, none⟩), .int .i64 (i : Int), .bool deep] w fun e w' => e = .returned (.int .i64 (-1)) /\ Zh3 b p w (n + zba M R f i deep) w'
 | 0, i, h, _, _, _, _, _, _, _ => absurd h (Nat.not_lt_zero _)
 | f + 1, i, hf, hi, deep, n, w, hX, hC, hN => by
  obtain ⟨nf, hnf⟩ : ∃ nf, (fun k => zba M R f k true) = nf := ⟨_, rfl⟩
  have hD : zba M R (f + 1) i deep = zb8 M R nf i deep := by rw [<- hnf]; rfl
  rw [hD] at hN ⊢
  have ih : ∀ u, u < M.n -> (u = i \/ rk i < rk u) -> ∀ k ∈ R u, ∀ n w, DX K w p M -> Cop w b p true n -> n + nf k <= 1000000 -> Calls Tryz.prog 116 #[.pointer (some ⟨b, 0, none⟩), .int .i64 (k : Int), .bool true] w fun e w' => e = .returned (.int .i64 (-1)) /\ Zh3 b p w (n + nf k) w' := by
   intro u hu hr k hk n w hX hC hN
   obtain ⟨h1, -, h3⟩ := hI.good.kid hu hk
   have hrk : rk i < rk k := by rcases hr with rfl | hr <;> omega
   rw [<- hnf] at hN ⊢
   exact zhv hI hn hb f k (by have := zfy h1 hrk; omega) h1 true n w hX hC hN
  have hbw := hC.lt
  have hS : zbh M R nf i <= zb8 M R nf i deep := by
   unfold zb8 za8
   cases deep
   ·exact Nat.le_refl _
   ·show _ <= _ + _ + _; omega
  obtain ⟨m1, hm1⟩ : ∃ m, (1 + if (M.nd i).content = -1 then 0 else 1) = m := ⟨_, rfl⟩
  have hSe : zbh M R nf i = m1 + (if clon M (M.nd i) = true then 1 + needs nf (R (M.nd i).shadow.toNat) else 0) := by unfold zbh; rw [hm1]
  have hm2 : m1 <= 2 := by rw [<- hm1]; split <;> omega
  refine zjg b p i deep (M.nd i) (M.pl i).up (R i) (-1) (by decide) (by decide) w _ hC.c0 (zb2 K p i M R w hX hI.good.wf hi (by omega) hI.good.few) fun V ao ac ko kc hkV hats => ⟨fun X => Zh3 b p V (n + m1) X, fun X => Zh3 b p V (n + zbh M R nf i) X, fun X => Zh3 b p V (n + za8 M R nf i) X, ?_⟩
  have hCV : Cop V b p true n := hC.kept hkV hC.lt
  have hXV := hX.kept hkV
  have fin : ∀ Z m, Zh3 b p V m Z -> Zh3 b p w m Z := fun Z m h => ⟨h.1, hkV.mono (fun k h => h.1) |>.trans (h.2.mono fun k h => ⟨ltl h.1 hkV.size, h.2⟩)⟩
  refine ⟨fun X h => h.2.mono fun k hk => ⟨hk.2, by omega⟩, fun X h => h.2.mono fun k hk => ⟨hk.2, by omega⟩, ?_, fun hsh X h => ?_, fun hsh X h => ?_, fun hd X h => ?_, fun hd hco X h => ?_, fun hd hco X h => ?_, fun hd X h => ?_⟩
  ·exact (zkt _ _ _ _ _ _ _ _ _ _ _ _ _ _ b p n (by omega) m1 hm1 V hCV).mono fun e w' h => h
  ·have : clon M (M.nd i) = false := by unfold clon; rw [hsh]; rfl
   rw [hSe, this, if_neg (by decide), Nat.add_zero]
   exact h
  ·obtain ⟨q, e, hq, h5, -, -, hr⟩ := hI.shadowQ hi hsh
   rw [e] at hSe ⊢
   rw [Int.toNat_natCast] at hSe
   have hXX := hXV.but hb h.2
   have r9 := zb2 K p q M R X hXX hI.good.wf hq (by omega) hI.good.few
   cases hfe : (M.nd q).fl.e with
   | false =>
    have hcl : clon M (M.nd i) = false := by unfold clon; rw [e, Int.toNat_natCast, hfe, Bool.and_false]
    rw [hcl, if_neg (by decide), Nat.add_zero] at hSe
    refine (zih b p q (-1) (M.nd q) (M.pl q).up (R q) X hfe h.1.c0 r9).mono ?_
    rintro e Y ⟨rfl, hk⟩
    refine ⟨rfl, ?_⟩
    rw [hSe]
    exact ⟨h.1.kept hk h.1.lt, h.2.trans (hk.mono fun k hh => ltl hh.1 h.2.size)⟩
   | true =>
    have hcl : clon M (M.nd i) = true := by unfold clon; rw [e, Int.toNat_natCast, hfe, Bool.and_true]; exact decide_eq_true (by omega)
    rw [hcl, if_pos rfl] at hSe
    refine zib b p q (-1) (M.nd q) (M.pl q).up (R q) X hfe _ h.1.c0 r9 fun V2 hkV2 => ?_
    have hC2 : Cop V2 b p true (n + m1) := h.1.kept hkV2 h.1.lt
    refine (zj9 _ rfl (-1) b p (n + m1) (by omega) V2 hC2).mono ?_
    rintro e Y ⟨rfl, hCY, hkY⟩
    refine ⟨-1, rfl, ?_⟩
    have hVY : Zh3 b p V (n + m1 + 1) Y := ⟨hCY, (h.2.trans (hkV2.mono fun k hh => ltl hh.1 h.2.size)).trans (hkY.mono fun k hh => ⟨ltl hh.1 (Nat.le_trans h.2.size hkV2.size), hh.2⟩)⟩
    refine (zeq hI hn hb nf q hq (-1) (n + m1 + 1) (by omega) (ih q hq (.inr hr)) Y (hXV.but hb hVY.2) hCY).mono ?_
    rintro e Z ⟨rfl, hZ⟩
    refine ⟨rfl, ?_⟩
    rw [hSe, show n + (m1 + (1 + needs nf (R q))) = n + m1 + 1 + needs nf (R q) by omega]
    exact hVY.next hZ
  ·subst hd; exact fin X _ h
  ·subst hd
   have hc : za8 M R nf i = zbh M R nf i := by unfold za8; rw [if_pos hco, Nat.add_zero]
   rw [hc]; exact h
  ·subst hd
   obtain ⟨q, hq, e, h4, -, -, hr, -⟩ := hI.content hi hco
   have hc : za8 M R nf i = zbh M R nf i + needs nf (R q) := by unfold za8; rw [if_neg hco, e, Int.toNat_natCast]
   have hDt : zb8 M R nf i true = za8 M R nf i + needs nf (R i) := rfl
   rw [e]
   refine (zeq hI hn hb nf q hq (-1 + 1) (n + zbh M R nf i) (by omega) (ih q hq (.inr hr)) X (hXV.but hb h.2) h.1).mono ?_
   rintro e Z ⟨rfl, hZ⟩
   refine ⟨rfl, ?_⟩
   rw [hc, <- Nat.add_assoc]
   exact h.next hZ
  ·subst hd
   have hDt : zb8 M R nf i true = za8 M R nf i + needs nf (R i) := rfl
   refine (zeq hI hn hb nf i hi (-1) (n + za8 M R nf i) (by omega) (ih i hi (.inl rfl)) X (hXV.but hb h.2) h.1).mono ?_
   rintro e Z ⟨rfl, hZ⟩
   refine ⟨rfl, fin Z _ ?_⟩
   rw [hDt, <- Nat.add_assoc]
   exact h.next hZ
end
section
variable {M0 : Dm} {R0 G0 : Nat -> List Nat} {rk0 : Nat -> Nat} {b p : Nat}
def KN (K : Nat -> Prop) (w V : World) (k : Nat) : Prop := K k \/ (w.heap.size <= k /\ k < V.heap.size)
structure CpR (K : Nat -> Prop) (b p : Nat) (w : World) (M : Dm) (n : Nat) (w' : World) : Prop where
 d : DX K w' p M
 c : Cop w' b p false n
 k : Kept (fun k => K k /\ k ≠ b) w w'
theorem CpR.next {K : Nat -> Prop} {w X Y : World} {M M' : Dm} {n m : Nat} (h : CpR K b p w M n X) (k : CpR K b p X M' m Y) : CpR K b p w M' m Y := ⟨k.d, k.c, h.k.trans k.k⟩
theorem DX.wide {K : Nat -> Prop} {w V : World} {M : Dm} (h : DX K w p M) (hk : Kept (fun k => k < w.heap.size) w V) : DX (KN K w V) V p M :=
 h.more hk (fun k hk => by rcases hk with hk | hk; exact .inl hk; exact .inr hk.1) (fun k hk' => by
  rcases hk' with hk' | hk'
  ·exact ltl (h.lt k hk') hk.size
  ·exact hk'.2)
theorem CpR.shut {K : Nat -> Prop} {w V Z : World} {M : Dm} {n : Nat} (hl : ∀ k, K k -> k < w.heap.size) (hk : Kept (fun k => k < w.heap.size) w V) (h : CpR (KN K w V) b p V M n Z) : CpR K b p w M n Z :=
 ⟨h.d.move (fun g hg hn => rfl) (fun k _ hk => .inl hk) (fun k hk' => h.d.lt k (.inl hk')), h.c, (hk.mono fun k h => hl k h.1).trans (h.k.mono fun k h => ⟨.inl h.1, h.2⟩)⟩
theorem zfn (hI : Inv M0 R0 G0 rk0) (hlim : M0.limit <= 100000) {i : Nat} (cp : Sta -> Nat -> Sta × Nat) (nf : Nat -> Nat) (hL : Lev M0 R0 G0 rk0 i cp nf) (u : Nat) (hu : u < M0.n) (hr : i = u \/ rk0 i < rk0 u) (tg : Nat) (ht : M0.n <= tg)
  (ih : ∀ k ∈ R0 u, ∀ (K : Nat -> Prop) s n w, K b -> DX K w p s.M -> Old M0 R0 G0 s -> s.ok -> s.M.n + nf k <= M0.limit -> Cop w b p false n -> n + nf k <= 1000000 -> Calls Tryz.prog 116 #[.pointer (some ⟨b, 0, none⟩), .int .i64 (k : Int), .bool true] w fun e w' => e = .returned (.int .i64 (s.M.n : Int)) /\ CpR K b p w (cp s k).1.M (n + nf k) w')
  (K : Nat -> Prop) (s : Sta) (n : Nat) (w : World) (hb : K b) (hX : DX K w p s.M) (ho : Old M0 R0 G0 s) (hs : s.ok) (htn : tg < s.M.n) (hh0 : R0 u ≠ [] -> zbp (s.M.nd tg) = true) (hroom : s.M.n + needs nf (R0 u) <= M0.limit) (hC : Cop w b p false n) (hN : n + needs nf (R0 u) <= 1000000) :
  Calls Tryz.prog 190 #[.pointer (some ⟨b, 0, none⟩), .int .i64 (u : Int), .int .i64 (tg : Int)] w fun e w' => e = .returned (.tuple #[]) /\ CpR K b p w (copies cp tg (R0 u) s).M (n + needs nf (R0 u)) w' := by
 have hbw := hC.lt
 have hun : u < s.M.n := ltl hu ho.n
 obtain ⟨rk, hIs⟩ := hs
 have hkids := hI.kidsOf hu hr
 have hle : s.M.n <= 100000 := by omega
 have hRu : s.R u = R0 u := ho.r u hu (fun e => by cases e)
 have r9 := zb2 K p u s.M s.R w hX hIs.good.wf hun (by omega) hIs.good.few
 rw [hRu] at r9
 have hlen : (R0 u).length <= 1000000 := by rw [<- hRu]; have := hIs.good.wf.len_le hun; omega
 have hs : s.ok := ⟨rk, hIs⟩
 refine zjq b p u (R0 u).length (tg : Int) (R0 u) rfl hlen (s.M.nd u) (s.M.pl u).up w _ hC.c0 r9 fun V ko hkV hnew => ⟨fun j X => CpR (KN K w V) b p V (copies cp tg ((R0 u).take j) s).M (n + needs nf ((R0 u).take j)) X, ?_, fun j hj X hIX => ?_, fun Z hIZ => ?_⟩
 ·exact ⟨hX.wide hkV, by simpa [needs] using hC.kept hkV hC.lt, Kept.refl _ _⟩
 ·have hIX : CpR (KN K w V) b p V (copies cp tg ((R0 u).take j) s).M (n + needs nf ((R0 u).take j)) X := hIX
  have hh := hh0 (List.ne_nil_of_length_pos (by omega))
  have h1 := zc9 nf (R0 u) j hj
  have h2 := zbq nf (R0 u) (j + 1)
  have hsub : ∀ k ∈ (R0 u).take j, k < M0.n /\ rk0 i < rk0 k /\ (M0.nd k).kind ≠ 4 /\ (M0.nd k).kind ≠ 5 := fun k hk => hkids k (List.mem_of_mem_take hk)
  have hd := zbn i hL tg ht ((R0 u).take j) s hsub ho hs htn hh (by have := zbq nf (R0 u) j; omega)
  have hkj := hkids _ (List.getElem_mem hj)
  have hmem := List.getElem_mem hj
  have hstep : copies cp tg ((R0 u).take (j + 1)) s = ((cp (copies cp tg ((R0 u).take j) s) (R0 u)[j]).1.put tg (cp (copies cp tg ((R0 u).take j) s) (R0 u)[j]).2) := by
   rw [List.take_succ_eq_append_getElem hj, zen]; rfl
  obtain ⟨sj, hsj⟩ : ∃ t, copies cp tg ((R0 u).take j) s = t := ⟨_, rfl⟩
  obtain ⟨kj, hkjE⟩ : ∃ k, (R0 u)[j] = k := ⟨_, rfl⟩
  rw [hsj] at hd hIX hstep
  rw [hkjE] at hkj hmem hstep h1
  have hoj : Old M0 R0 G0 sj := ho.next hd.keeps ht
  have hnj := hd.n
  have hroomj : sj.M.n + nf kj <= M0.limit := by omega
  have hdone := hL kj hkj.1 hkj.2.1 hkj.2.2.2 sj hoj hd.ok hroomj
  have ekj : sj.M.nd kj = M0.nd kj := hoj.nd kj hkj.1
  obtain ⟨f1, f2, f3⟩ := hdone.fits hd.ok (tg := tg) (by omega) (by rw [hd.keeps.nd tg htn]; exact hh) (by rw [ekj]; exact hkj.2.2.1) (by rw [ekj]; exact hkj.2.2.2)
  refine ⟨hnew.but (b := b) (fun g h1 h2 => ⟨.inr ⟨h1, h2⟩, by omega⟩) hIX.k, ?_⟩
  rw [hkjE]
  refine (ih kj hmem (KN K w V) sj _ X (.inl hb) hIX.d hoj hd.ok hroomj hIX.c (by omega)).mono ?_
  rintro e Y ⟨rfl, hY⟩
  refine ⟨_, rfl, ?_⟩
  obtain ⟨rk2, hI2⟩ := hdone.mid.ok
  rw [<- hdone.c]
  have hn2 := hdone.mid.n
  refine (zm3 (tg : Int) ((cp sj kj).2 : Int) 0 b p _ Y hY.c (fun Z => CpR (KN K w V) b p Y ((cp sj kj).1.put tg (cp sj kj).2).M (n + needs nf ((R0 u).take j) + nf kj) Z) ((zd6 (KN K w V) p tg (cp sj kj).2 (-1) (cp sj kj).1.M (cp sj kj).1.R rk2 Y hY.d hI2.good.wf hI2.good.acy f1 f2 (.inl rfl) (by omega)).mono ?_)).mono ?_
  ·rintro e Z ⟨hK, ⟨-, hn, -⟩ | ⟨rfl, -, hZ⟩⟩
   ·exact absurd f3 hn
   ·exact ⟨rfl, hZ, hY.c.kept hK (.inl hb), hK.mono fun k h => h.1⟩
  ·rintro e Z ⟨rfl, hZ⟩
   refine ⟨rfl, ?_⟩
   show CpR (KN K w V) b p V (copies cp tg ((R0 u).take (j + 1)) s).M (n + needs nf ((R0 u).take (j + 1))) Z
   rw [hstep, h1, <- Nat.add_assoc]
   exact (hIX.next hY).next hZ
 ·have hIZ : CpR (KN K w V) b p V (copies cp tg ((R0 u).take (R0 u).length) s).M (n + needs nf ((R0 u).take (R0 u).length)) Z := hIZ
  rw [List.take_length] at hIZ
  exact hIZ.shut hX.lt hkV
end
section
variable {M0 : Dm} {R0 G0 : Nat -> List Nat} {rk0 : Nat -> Nat} {b p : Nat}
theorem zhe (l : List UInt8) : (⟨l.toArray⟩ : ByteArray).toList = l := by rw [ByteArray.toList_eq]
theorem zl5 (K : Nat -> Prop) (s : Sta) (i n m1 : Nat) (hi : i < s.M.n) (h5 : (s.M.nd i).kind ≠ 5) (hs : s.ok) (hlim : s.M.limit <= 100000) (hm1 : (1 + if (s.M.nd i).content = -1 then 0 else 1) = m1) (hroom : s.M.n + m1 <= s.M.limit) (hn : n <= 1000000)
  (w V : World) (hkV : Kept (fun k => k < w.heap.size) w V) (hb : K b) (hX : DX K w p s.M) (hC : Cop w b p false n) (ao : Option Addr) (ac : Nat) (up : Int) (ko : Option Addr) (kn kc : Nat) (hats : Zag (fun k => w.heap.size <= k /\ k < V.heap.size) V ao (s.M.nd i).attrs) :
  Calls Tryz.prog 188 #[.pointer (some ⟨b, 0, none⟩), .agg (nV (s.M.nd i) ao ac up ko kn kc)] V fun e X => e = .returned (.int .i64 (s.M.n : Int)) /\ CpR (KN K w V) b p V (s.mk1 (s.M.nd i)).M (n + m1) X := by
 obtain ⟨rk, hI⟩ := hs
 have hbw := hC.lt
 have hsn := hI.ex.snd i hi h5
 have htp := hI.ex.tpl i hi
 have hatr := hI.core.atr hi
 have hfew := hI.good.few i hi
 obtain ⟨x, hx⟩ : ∃ x, s.M.nd i = x := ⟨_, rfl⟩
 rw [hx] at hsn htp hats hm1 hatr hfew ⊢
 refine (zk7 (nV x ao ac up ko kn kc) x.content (s.M.n : Int) rfl rfl b p n m1 hm1 hn V (hC.kept hkV hC.lt) (fun X => DX (KN K w V) X p (s.mk1 x).M /\ Kept (fun k => KN K w V k /\ k ≠ b) V X) fun X N hCX hkX hN hNb => ?_).mono ?_
 ·have hsz : V.heap.size <= X.heap.size := hkX.size
  have hXV := hX.wide hkV
  have hX2 : DX (fun k => KN K w V k \/ k = N) X p s.M := hXV.move (fun g hg hn => hkX.block g ⟨hg, fun e => hn (.inl (e ▸ hb))⟩) (fun k hk h => by
   rcases h with h | h
   ·exact h
   ·omega) (fun k h => by
   rcases h with h | h
   ·exact ltl (hXV.lt k h) hsz
   ·rw [h]; exact zad hNb)
  have hle : s.M.n <= 100000 := by omega
  have ha2 : Zag (fun k => k < X.heap.size) X ao x.attrs := hats.tt (fun g hg => by have := hg.2; omega) (fun g hg => hkX.block g ⟨hg.2, by have := hg.1; omega⟩)
  have r := zgq (fun k => KN K w V k \/ k = N) p x.kind ⟨x.name.toArray⟩ ⟨x.data.toArray⟩ x.attrs ao x.attrs.length ac ⟨up, ko, kn, kc, x.shadow, x.host, x.content, x.fl⟩ X s.M hX2 hle hlim rfl (by omega) ha2 (fun a ha => by have := hatr a ha; omega)
  rw [zhe, zhe] at r
  refine r.mono ?_
  rintro e Y ⟨hK, hM⟩
  have hCY := hCX.kept hK (.inl (.inl hb))
  have hNY : Y.heap[N]? = _ := (hK.block N (.inr rfl)).trans hNb
  have hkY : Kept (fun k => KN K w V k /\ k ≠ b) V Y := (hkX.mono fun k h => ⟨by rcases h.1 with h1 | h1; exact ltl (hX.lt k h1) hkV.size; exact h1.2, h.2⟩).trans (hK.mono fun k h => .inl h.1)
  have wk : ∀ M', DX (fun k => KN K w V k \/ k = N) Y p M' -> DX (KN K w V) Y p M' := fun M' h => h.move (fun _ _ _ => rfl) (fun k _ h => .inl h) (fun k h' => h.lt k (.inl h'))
  unfold Sta.mk1
  cases hM with
  | arg a _ _ => rw [show zat ⟨x.kind, x.name, x.data, x.attrs⟩ = true from hsn] at a; cases a
  | full _ hf _ _ =>
   exfalso
   by_cases c : x.content = -1
   ·rw [if_pos c] at hm1
    rw [if_neg (fun ht => absurd c (htp.2 ht))] at hf
    omega
   ·rw [if_neg c] at hm1
    rw [if_pos (htp.1 c)] at hf
    omega
  | two _ ht _ he hX' =>
   rw [if_neg (htp.2 ht)]
   exact ⟨he, hCY, hNY, wk _ hX', hkY⟩
  | one _ ht _ he hX' =>
   rw [if_pos (Classical.byContradiction fun c => ht (htp.1 c))]
   exact ⟨he, hCY, hNY, wk _ hX', hkY⟩
 ·rintro e X ⟨rfl, hCX, hd, hk⟩
  exact ⟨rfl, hd, hCX, hk⟩
theorem zka (K : Nat -> Prop) (s : Sta) (h n : Nat) (f : Fg) (hh : h < s.M.n) (hk1 : (s.M.nd h).kind = 1) (h0 : (s.M.nd h).shadow = -1) (hlim : s.M.limit <= 100000) (hroom : s.M.n + 1 <= s.M.limit) (hn : n <= 1000000)
  (w : World) (hb : K b) (hX : DX K w p s.M) (hC : Cop w b p false n) :
  Calls Tryz.prog 241 #[.pointer (some ⟨b, 0, none⟩), .int .i64 (h : Int), fgV f] w fun e X => e = .returned (.int .i64 (s.M.n : Int)) /\ CpR K b p w (s.rt h f).M (n + 1) X := by
 have hbw := hC.lt
 refine (zkx #[.bool f.a, .bool f.b, .bool f.c, .bool f.d, .bool f.e] (h : Int) (s.M.n : Int) rfl b p n hn w hC (fun X => DX K X p (s.rt h f).M /\ Kept (fun k => K k /\ k ≠ b) w X) fun X N hCX hkX hN hNb => ?_).mono ?_
 ·have hsz : w.heap.size <= X.heap.size := hkX.size
  have hX2 : DX (fun k => K k \/ k = N) X p s.M := hX.move (fun g hg hn => hkX.block g ⟨hg, fun e => hn (e ▸ hb)⟩) (fun k hk h => by
   rcases h with h | h
   ·exact h
   ·omega) (fun k h => by
   rcases h with h | h
   ·exact ltl (hX.lt k h) hsz
   ·rw [h]; exact zad hNb)
  refine (zmh (fun k => K k \/ k = N) p h s.M f X hX2 hh (by omega) hlim).mono ?_
  rintro e Y ⟨hK, hM⟩
  have hCY := hCX.kept hK (.inl hb)
  have hNY : Y.heap[N]? = _ := (hK.block N (.inr rfl)).trans hNb
  have hkY : Kept (fun k => K k /\ k ≠ b) w Y := (hkX.mono fun k h => ⟨hX.lt k h.1, h.2⟩).trans (hK.mono fun k h => .inl h.1)
  cases hM with
  | host a _ _ => exact absurd hk1 a
  | twice _ a _ _ => exact absurd h0 a
  | full _ _ a _ _ => omega
  | made _ _ _ e hX' => exact ⟨e, hCY, hNY, hX'.move (fun _ _ _ => rfl) (fun k _ h => .inl h) (fun k h' => hX'.lt k (.inl h')), hkY⟩
 ·rintro e X ⟨rfl, hCX, hd, hk⟩
  exact ⟨rfl, hd, hCX, hk⟩
theorem zjm (hI : Inv M0 R0 G0 rk0) (hlim : M0.limit <= 100000) : ∀ (f i : Nat), dn M0.n rk0 i < f -> i < M0.n -> (M0.nd i).kind ≠ 5 -> ∀ (deep : Bool) (K : Nat -> Prop) (s : Sta) (n : Nat) (w : World), K b -> DX K w p s.M -> Old M0 R0 G0 s -> s.ok -> s.M.n + zba M0 R0 f i deep <= M0.limit -> Cop w b p false n -> n + zba M0 R0 f i deep <= 1000000 ->
  Calls Tryz.prog 116 #[.pointer (some ⟨b, 0, none⟩), .int .i64 (i : Int), .bool deep] w fun e w' => e = .returned (.int .i64 (s.M.n : Int)) /\ CpR K b p w (zcm f s i deep).1.M (n + zba M0 R0 f i deep) w'
 | 0, i, h, _, _, _, _, _, _, _, _, _, _, _, _, _, _ => absurd h (Nat.not_lt_zero _)
 | f + 1, i, hf, hi, h5, deep, K, s, n, w, hb, hX, ho, hs, hroom, hC, hN => by
  have hL := zmk hI (f := f) (i := i) hf
  have ih : ∀ u, u < M0.n -> (i = u \/ rk0 i < rk0 u) -> ∀ k ∈ R0 u, ∀ (K : Nat -> Prop) s n w, K b -> DX K w p s.M -> Old M0 R0 G0 s -> s.ok -> s.M.n + (fun k => zba M0 R0 f k true) k <= M0.limit -> Cop w b p false n -> n + (fun k => zba M0 R0 f k true) k <= 1000000 -> Calls Tryz.prog 116 #[.pointer (some ⟨b, 0, none⟩), .int .i64 (k : Int), .bool true] w fun e w' => e = .returned (.int .i64 (s.M.n : Int)) /\ CpR K b p w ((fun s k => zcm f s k true) s k).1.M (n + (fun k => zba M0 R0 f k true) k) w' := by
   intro u hu hr k hk K s n w hb hX ho hs hroom hC hN
   obtain ⟨h1, h2, -, h4⟩ := hI.kidsOf hu hr k hk
   exact zjm hI hlim f k (by have := zfy h1 h2; omega) h1 h4 true K s n w hb hX ho hs hroom hC hN
  have hF : zcm (f + 1) s i deep = (zdm (fun s k => zcm f s k true) s i deep, s.M.n) := rfl
  have hD : zba M0 R0 (f + 1) i deep = zb8 M0 R0 (fun k => zba M0 R0 f k true) i deep := rfl
  rw [hD] at hroom hN ⊢
  rw [hF]
  obtain ⟨nf, hnf⟩ : ∃ nf, (fun k => zba M0 R0 f k true) = nf := ⟨_, rfl⟩
  obtain ⟨cp, hcp⟩ : ∃ cp, (fun (s : Sta) (k : Nat) => zcm f s k true) = cp := ⟨_, rfl⟩
  rw [hnf] at hL hroom hN ih ⊢
  rw [hcp] at hL ih ⊢
  clear hF hD hnf hcp
  have hbw := hC.lt
  have hin : i < s.M.n := ltl hi ho.n
  have ei : s.M.nd i = M0.nd i := ho.nd i hi
  have hRi : s.R i = R0 i := ho.r i hi (fun e => by cases e)
  obtain ⟨rk, hIs⟩ := hs
  have hs : s.ok := ⟨rk, hIs⟩
  have hS : zbh M0 R0 nf i <= zb8 M0 R0 nf i deep := by
   unfold zb8 za8
   cases deep
   ·exact Nat.le_refl _
   ·show _ <= _ + _ + _; omega
  obtain ⟨m1, hm1⟩ : ∃ m, (1 + if (M0.nd i).content = -1 then 0 else 1) = m := ⟨_, rfl⟩
  have hSe : zbh M0 R0 nf i = m1 + (if clon M0 (M0.nd i) = true then 1 + needs nf (R0 (M0.nd i).shadow.toNat) else 0) := by unfold zbh; rw [hm1]
  have hm2 : m1 <= 2 := by rw [<- hm1]; split <;> omega
  have hslim : s.M.limit = M0.limit := ho.lim
  have hle : s.M.n <= 100000 := by omega
  have hmid := zg1 hs hin (by rw [ei]; exact h5)
  have hmS := zlt hI hi h5 hL ho hs (by omega)
  have hcl : clon s.M (s.M.nd i) = clon M0 (M0.nd i) := by
   rw [ei]; unfold clon
   by_cases c : (M0.nd i).shadow = -1
   ·simp [c]
   ·rcases hI.core.shad i hi with e | ⟨q, hq, e, -⟩
    ·exact absurd e c
    ·rw [e, Int.toNat_natCast, ho.nd q hq]
  refine zjg b p i deep (s.M.nd i) (s.M.pl i).up (s.R i) (s.M.n : Int) (by omega) (by omega) w _ hC.c0 (zb2 K p i s.M s.R w hX hIs.good.wf hin (by omega) hIs.good.few) fun V ao ac ko kc hkV hats => ⟨fun X => CpR (KN K w V) b p V (s.mk1 (s.M.nd i)).M (n + m1) X, fun X => CpR (KN K w V) b p V (zbd cp s i).M (n + zbh M0 R0 nf i) X, fun X => CpR (KN K w V) b p V (zbt cp s i).M (n + za8 M0 R0 nf i) X, ?_⟩
  have fin : ∀ Z M m, CpR (KN K w V) b p V M m Z -> CpR K b p w M m Z := fun Z M m h => h.shut hX.lt hkV
  refine ⟨fun X h => h.k.mono fun k hk => ⟨.inr hk, by omega⟩, fun X h => h.k.mono fun k hk => ⟨.inr hk, by omega⟩, ?_, fun hsh X h => ?_, fun hsh X h => ?_, fun hd X h => ?_, fun hd hco X h => ?_, fun hd hco X h => ?_, fun hd X h => ?_⟩
  ·exact zl5 K s i n m1 hin (by rw [ei]; exact h5) hs (by omega) (by rw [ei]; exact hm1) (by omega) (by omega) w V hkV hb hX hC ao ac (s.M.pl i).up ko (s.R i).length kc hats
  ·have hc0 : clon M0 (M0.nd i) = false := by unfold clon; rw [<- ei, hsh]; rfl
   have e1 : zbd cp s i = s.mk1 (s.M.nd i) := by unfold zbd; rw [hcl, hc0, if_neg (by decide)]
   rw [e1, hSe, hc0, if_neg (by decide), Nat.add_zero]
   exact h
  ·rw [ei] at hsh
   obtain ⟨q, e, hq, h5q, -, -, hr⟩ := hI.shadowQ hi hsh
   rw [e, Int.toNat_natCast] at hSe
   have e' : (s.M.nd i).shadow = (q : Int) := by rw [ei]; exact e
   rw [e']
   have ho1 : Old M0 R0 G0 (s.mk1 (s.M.nd i)) := ho.trans (hmid.keeps.low ho.n)
   have hq1 : q < (s.mk1 (s.M.nd i)).M.n := ltl hq ho1.n
   obtain ⟨rk1, hI1⟩ := hmid.ok
   have hn1 := hmid.n
   have hn1' : (s.mk1 (s.M.nd i)).M.n = s.M.n + m1 := by rw [hn1, ei, hm1]
   have r9 := zb2 (KN K w V) p q (s.mk1 (s.M.nd i)).M (s.mk1 (s.M.nd i)).R X h.d hI1.good.wf hq1 (by omega) hI1.good.few
   have eq1 : (s.mk1 (s.M.nd i)).M.nd q = M0.nd q := ho1.nd q hq
   rw [eq1] at r9
   cases hfe : (M0.nd q).fl.e with
   | false =>
    have hc0 : clon M0 (M0.nd i) = false := by unfold clon; rw [e, Int.toNat_natCast, hfe, Bool.and_false]
    have e1 : zbd cp s i = s.mk1 (s.M.nd i) := by unfold zbd; rw [hcl, hc0, if_neg (by decide)]
    rw [hc0, if_neg (by decide), Nat.add_zero] at hSe
    refine (zih b p q (s.M.n : Int) (M0.nd q) _ _ X hfe h.c.c0 r9).mono ?_
    rintro e Y ⟨rfl, hk⟩
    refine ⟨rfl, ?_⟩
    rw [hSe, e1]
    exact ⟨h.d.kept hk, h.c.kept hk h.c.lt, h.k.trans (hk.mono fun k hh => h.d.lt k hh.1)⟩
   | true =>
    have hc1 : clon M0 (M0.nd i) = true := by unfold clon; rw [e, Int.toNat_natCast, hfe, Bool.and_true]; exact decide_eq_true (by omega)
    have e1 : zbd cp s i = copies cp (s.mk1 (s.M.nd i)).M.n (R0 q) ((s.mk1 (s.M.nd i)).rt s.M.n (M0.nd q).fl) := by
     unfold zbd; rw [hcl, hc1, if_pos rfl, e', Int.toNat_natCast, ho.r q hq (fun e => by cases e), ho.nd q hq]
    rw [hc1, if_pos rfl] at hSe
    obtain ⟨q', hq', eqq, -, hm3⟩ := zj1 hI hi h5 ho hs hc1
    have : q' = q := by omega
    subst this
    have hk1 : (M0.nd i).kind = 1 := (zi3 hI hi hc1).elim fun _ h => h.2.2.1
    have hlt : s.M.n < (s.mk1 (s.M.nd i)).M.n := by have := hmid.one; omega
    have hn3 := hm3.n
    obtain ⟨r1, r2, r3, r4, r5, r6, r7⟩ := zmv (s := s.mk1 (s.M.nd i)) (M0.nd q').fl hlt
    refine zib b p q' (s.M.n : Int) (M0.nd q') _ _ X hfe _ h.c.c0 r9 fun V2 hkV2 => ?_
    have hlim1 : (s.mk1 (s.M.nd i)).M.limit = M0.limit := ho1.lim
    refine (zka (KN K w V) (s.mk1 (s.M.nd i)) s.M.n (n + m1) (M0.nd q').fl hlt (by rw [hmid.like.kind, ei]; exact hk1) zd9.2.2.1 (by omega) (by omega) (by omega) V2 (.inl hb) (h.d.kept hkV2) (h.c.kept hkV2 h.c.lt)).mono ?_
    rintro e Y ⟨rfl, hY⟩
    refine ⟨_, rfl, ?_⟩
    refine (zfn hI hlim cp nf hL q' hq (.inr hr) (s.mk1 (s.M.nd i)).M.n (by have := ho1.n; exact this) (ih q' hq (.inr hr)) (KN K w V) ((s.mk1 (s.M.nd i)).rt s.M.n (M0.nd q').fl) (n + m1 + 1) Y (.inl hb) hY.d (ho.trans (hm3.keeps.low ho.n)) hm3.ok (by rw [r1]; omega) (fun _ => by rw [r2]; exact zoz _ rfl) (by rw [r1]; omega) hY.c (by omega)).mono ?_
    rintro e Z ⟨rfl, hZ⟩
    refine ⟨rfl, ?_⟩
    rw [e1, hSe, show n + (m1 + (1 + needs nf (R0 q'))) = n + m1 + 1 + needs nf (R0 q') by omega]
    exact ⟨hZ.d, hZ.c, ((h.k.trans (hkV2.mono fun k hh => h.d.lt k hh.1)).trans hY.k).trans hZ.k⟩
  ·subst hd; exact fin X _ _ h
  ·subst hd
   rw [ei] at hco
   have hc : za8 M0 R0 nf i = zbh M0 R0 nf i := by unfold za8; rw [if_pos hco, Nat.add_zero]
   have e1 : zbt cp s i = zbd cp s i := by unfold zbt; rw [ei, if_pos hco]
   rw [hc, e1]; exact h
  ·subst hd
   rw [ei] at hco
   obtain ⟨q, hq, e, h4, -, -, hr, -⟩ := hI.content hi hco
   have hc : za8 M0 R0 nf i = zbh M0 R0 nf i + needs nf (R0 q) := by unfold za8; rw [if_neg hco, e, Int.toNat_natCast]
   have e1 : zbt cp s i = copies cp (s.M.n + 1) (R0 q) (zbd cp s i) := by unfold zbt; rw [ei, if_neg hco, e, Int.toNat_natCast, ho.r q hq (fun e => by cases e)]
   have hDt : zb8 M0 R0 nf i true = za8 M0 R0 nf i + needs nf (R0 i) := rfl
   rw [ei, e, e1]
   have h2 := hmS.two (by rw [ei]; exact hco)
   have hn2 := hmS.n
   have hM0n : M0.n <= s.M.n := ho.n
   refine (zfn hI hlim cp nf hL q hq (.inr hr) (s.M.n + 1) (by omega) (ih q hq (.inr hr)) (KN K w V) (zbd cp s i) (n + zbh M0 R0 nf i) X (.inl hb) h.d (ho.trans (hmS.keeps.low ho.n)) hmS.ok (by omega) (fun _ => zop _ (hmS.like.c4 (by rw [ei]; exact hco))) (by omega) h.c (by omega)).mono ?_
   rintro e Z ⟨rfl, hZ⟩
   refine ⟨rfl, ?_⟩
   rw [hc, <- Nat.add_assoc]
   exact h.next hZ
  ·subst hd
   have hDt : zb8 M0 R0 nf i true = za8 M0 R0 nf i + needs nf (R0 i) := rfl
   have e1 : zdm cp s i true = copies cp s.M.n (R0 i) (zbt cp s i) := by show copies cp s.M.n (s.R i) (zbt cp s i) = _; rw [hRi]
   have hmC := zo7 hI hi h5 hL ho hs (by omega)
   have hn2 := hmC.n
   have h1 := hmC.one
   rw [e1]
   refine (zfn hI hlim cp nf hL i hi (.inl rfl) s.M.n ho.n (ih i hi (.inl rfl)) (KN K w V) (zbt cp s i) (n + za8 M0 R0 nf i) X (.inl hb) h.d (ho.trans (hmC.keeps.low ho.n)) hmC.ok (by omega) (fun c => by
    obtain ⟨k, hk⟩ := List.exists_mem_of_ne_nil _ c
    have hh := (hI.ex.kid i hi k hk).1
    unfold zbp at hh ⊢
    rw [hmC.like.kind, hmC.like.name, ei]; exact hh) (by omega) h.c (by omega)).mono ?_
   rintro e Z ⟨rfl, hZ⟩
   refine ⟨rfl, fin Z _ _ ?_⟩
   rw [hDt, <- Nat.add_assoc]
   exact h.next hZ
end
end Go.Proofs.YtfeinppedejlpaaGreat
