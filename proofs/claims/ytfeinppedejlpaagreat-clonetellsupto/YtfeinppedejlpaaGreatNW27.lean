/-
 Each call does the same to both documents.; Each call does the same to both documents: Root, Give, Make.; Does: what comes ahead of each call (both documents beside a box of one's own).
-/
import Derived.Test.YtfeinppedejlpaaGreatNW26
import Derived.Test.YtfeinppedejlpaaGreatNW21
import Derived.Test.YtfeinppedejlpaaGreatNW24
import Derived.Test.YtfeinppedejlpaaGreatNW20
import Derived.Test.YtfeinppedejlpaaGreatNW17
import Derived.Test.YtfeinppedejlpaaGreatNW25
import Derived.Test.YtfeinppedejlpaaGreatNW23
namespace Go.Proofs.YtfeinppedejlpaaGreat
set_option linter.unusedVariables false
set_option maxRecDepth 100000
set_option maxHeartbeats 8000000
section
open Go.RowKit
structure Grows (M M' : Dm) : Prop where
 n : M.n <= M'.n
 limit : M'.limit = M.limit
 le : M.n <= M.limit -> M'.n <= M'.limit
 kind : ∀ i, i < M.n -> (M'.nd i).kind = (M.nd i).kind
 name : ∀ i, i < M.n -> (M'.nd i).name = (M.nd i).name
 host : ∀ i, i < M.n -> (M'.nd i).host = (M.nd i).host
 cont : ∀ i, i < M.n -> (M'.nd i).content = (M.nd i).content
 shad : ∀ i, i < M.n -> (M.nd i).shadow ≠ -1 -> (M'.nd i).shadow = (M.nd i).shadow
theorem Grows.refl (M : Dm) : Grows M M := ⟨Nat.le_refl _, rfl, fun h => h, fun _ _ => rfl, fun _ _ => rfl, fun _ _ => rfl, fun _ _ => rfl, fun _ _ _ => rfl⟩
theorem Grows.same {M M' : Dm} (e1 : M'.n = M.n) (e2 : M'.limit = M.limit) (e3 : ∀ i, M'.nd i = M.nd i) : Grows M M' :=
 ⟨by rw [e1]; exact Nat.le_refl _, e2, fun h => by rw [e1, e2]; exact h, fun i _ => by rw [e3], fun i _ => by rw [e3], fun i _ => by rw [e3], fun i _ => by rw [e3], fun i _ _ => by rw [e3]⟩
theorem Grows.setN {M : Dm} {i : Nat} {x : Nd} (e1 : x.kind = (M.nd i).kind) (e2 : x.name = (M.nd i).name) (e3 : x.shadow = (M.nd i).shadow) (e4 : x.host = (M.nd i).host) (e5 : x.content = (M.nd i).content) : Grows M (M.setN i x) := by
 refine ⟨Nat.le_refl _, rfl, fun h => h, fun k _ => ?_, fun k _ => ?_, fun k _ => ?_, fun k _ => ?_, fun k _ _ => ?_⟩ <;> (by_cases c : k = i)
 ·subst c; rw [zas]; exact e1
 ·rw [zay _ _ c]
 ·subst c; rw [zas]; exact e2
 ·rw [zay _ _ c]
 ·subst c; rw [zas]; exact e4
 ·rw [zay _ _ c]
 ·subst c; rw [zas]; exact e5
 ·rw [zay _ _ c]
 ·subst c; rw [zas]; exact e3
 ·rw [zay _ _ c]
structure Zc2 (M M' : Dm) : Prop extends Grows M M' where
 nor : ∀ i, M.n <= i -> i < M'.n -> (M'.nd i).kind ≠ 5
theorem Zc2.same {M M' : Dm} (e1 : M'.n = M.n) (e2 : M'.limit = M.limit) (e3 : ∀ i, M'.nd i = M.nd i) : Zc2 M M' := ⟨.same e1 e2 e3, fun i h1 h2 => absurd h2 (by omega)⟩
theorem Zc2.refl (M : Dm) : Zc2 M M := .same rfl rfl fun _ => rfl
theorem Zc2.setN {M : Dm} {i : Nat} {x : Nd} (e1 : x.kind = (M.nd i).kind) (e2 : x.name = (M.nd i).name) (e3 : x.shadow = (M.nd i).shadow) (e4 : x.host = (M.nd i).host) (e5 : x.content = (M.nd i).content) : Zc2 M (M.setN i x) :=
 ⟨.setN e1 e2 e3 e4 e5, fun i h1 h2 => absurd h2 (by show ¬ i < M.n; omega)⟩
theorem zdu {i : Int} {n : Nat} (h : ¬ (i < 0 \/ (n : Int) <= i)) : ∃ k : Nat, k < n /\ i = (k : Int) := ⟨i.toNat, by omega, by omega⟩
theorem Inv.hn {M : Dm} {R G : Nat -> List Nat} {rk : Nat -> Nat} (h : Inv M R G rk) {u : Nat} (hu : u < M.n) : (R u).length <= M.n := h.good.wf.len_le hu
theorem Inv.ups {M : Dm} {R G : Nat -> List Nat} {rk : Nat -> Nat} (h : Inv M R G rk) {i : Nat} (hi : i < M.n) : (M.pl i).up = -1 \/ ∃ u : Nat, u < M.n /\ (M.pl i).up = (u : Int) := by
 rcases h.good.wf.inn i hi with e | ⟨u, hu, e, -⟩
 ·exact .inl e
 ·exact .inr ⟨u, hu, e⟩
section
variable {M : Dm} {R G : Nat -> List Nat} {rk : Nat -> Nat}
theorem zgz (hI : Inv M R G rk) (hn : M.n <= 100000) (up i bef : Int) : ∃ z M' R' rk', Inv M' R' G rk' /\ Zc2 M M' /\ (z = 0 \/ (M' = M /\ R' = R)) /\ (0 <= z /\ z <= 200) /\
  (∀ K w p, DX K w p M -> Calls Tryz.prog 70 #[.pointer (some ⟨p, 0, none⟩), .int .i64 up, .int .i64 i, .int .i64 bef] w fun e w' => e = .returned (.int .u16 z) /\ DX K w' p M' /\ Kept K w w') /\
  (∀ K w p, RX K TT w p M R G -> Calls Tryz.prog 94 #[.pointer (some ⟨p, 0, none⟩), .int .i64 up, .int .i64 i, .int .i64 bef] w fun e w' => e = .returned (.int .i64 z) /\ RX K TT w' p M' R' G /\ Kept K w w') := by
 by_cases hno : (up < 0 \/ (M.n : Int) <= up) \/ (i < 0 \/ (M.n : Int) <= i) \/ (bef ≠ -1 /\ (bef < 0 \/ (M.n : Int) <= bef))
 ·refine ⟨80, M, R, rk, hI, .refl M, .inr ⟨rfl, rfl⟩, ⟨by decide, by decide⟩, fun K w p h => (zit K p M up i bef w h (by omega) hno).mono ?_, fun K w p h => (zli K p M R G up i bef w h hno).mono ?_⟩
  ·rintro e w' ⟨rfl, rfl⟩; exact ⟨rfl, h, Kept.refl _ _⟩
  ·rintro e w' ⟨rfl, rfl⟩; exact ⟨rfl, h, Kept.refl _ _⟩
 ·obtain ⟨u, hu, rfl⟩ := zdu (i := up) (n := M.n) (fun h => hno (.inl h))
  obtain ⟨k, hk, rfl⟩ := zdu (i := i) (n := M.n) (fun h => hno (.inr (.inl h)))
  have hb : bef = -1 \/ ∃ m : Nat, m < M.n /\ bef = (m : Int) := by
   by_cases c : bef = -1
   ·exact .inl c
   ·obtain ⟨m, hm, e⟩ := zdu (i := bef) (n := M.n) (fun h => hno (.inr (.inr ⟨c, h⟩)))
    exact .inr ⟨m, hm, e⟩
  by_cases hF : Fits M u k bef
  ·obtain ⟨rk', hI'⟩ := hI.ins hu hk hF
   refine ⟨0, _, _, rk', hI', .same rfl rfl (fun _ => rfl), .inl rfl, ⟨by decide, by decide⟩, fun K w p h => (zd6 K p u k bef M R rk w h hI.good.wf hI.good.acy hu hk hb (by omega)).mono ?_, fun K w p h => (zem K p u k bef M R G rk w h hI.good.wf hI.good.acy hu hk hb (by omega) (hI.core.move hk)).mono ?_⟩
   ·rintro e w' ⟨hK, ⟨-, c, -⟩ | ⟨rfl, -, hX⟩⟩
    ·exact absurd hF c
    ·exact ⟨rfl, hX, hK⟩
   ·rintro e w' ⟨hK, ⟨-, c, -⟩ | ⟨rfl, -, hX⟩⟩
    ·exact absurd hF c
    ·exact ⟨rfl, hX, hK⟩
  ·refine ⟨81, M, R, rk, hI, .refl M, .inr ⟨rfl, rfl⟩, ⟨by decide, by decide⟩, fun K w p h => (zd6 K p u k bef M R rk w h hI.good.wf hI.good.acy hu hk hb (by omega)).mono ?_, fun K w p h => (zem K p u k bef M R G rk w h hI.good.wf hI.good.acy hu hk hb (by omega) (hI.core.move hk)).mono ?_⟩
   ·rintro e w' ⟨hK, ⟨rfl, -, hX⟩ | ⟨-, c, -⟩⟩
    ·exact ⟨rfl, hX, hK⟩
    ·exact absurd c hF
   ·rintro e w' ⟨hK, ⟨rfl, -, hX⟩ | ⟨-, c, -⟩⟩
    ·exact ⟨rfl, hX, hK⟩
    ·exact absurd c hF
theorem zoj (hI : Inv M R G rk) (hn : M.n <= 100000) (i : Int) : ∃ z M' R' rk', Inv M' R' G rk' /\ Zc2 M M' /\ (z = 0 \/ (M' = M /\ R' = R)) /\ (0 <= z /\ z <= 200) /\
  (∀ K w p, DX K w p M -> Calls Tryz.prog 95 #[.pointer (some ⟨p, 0, none⟩), .int .i64 i] w fun e w' => e = .returned (.int .u16 z) /\ DX K w' p M' /\ Kept K w w') /\
  (∀ K w p, RX K TT w p M R G -> Calls Tryz.prog 96 #[.pointer (some ⟨p, 0, none⟩), .int .i64 i] w fun e w' => e = .returned (.int .i64 z) /\ RX K TT w' p M' R' G /\ Kept K w w') := by
 by_cases hno : i < 0 \/ (M.n : Int) <= i
 ·refine ⟨80, M, R, rk, hI, .refl M, .inr ⟨rfl, rfl⟩, ⟨by decide, by decide⟩, fun K w p h => (zil K p M i w h hno (by omega)).mono ?_, fun K w p h => (zhx K p M R G i w h hno).mono ?_⟩
  ·rintro e w' ⟨rfl, rfl⟩; exact ⟨rfl, h, Kept.refl _ _⟩
  ·rintro e w' ⟨rfl, rfl⟩; exact ⟨rfl, h, Kept.refl _ _⟩
 ·obtain ⟨k, hk, rfl⟩ := zdu hno
  have hrl : ∀ u, u < M.n -> (R u).length <= 1000000 := fun u hu => by have := hI.hn hu; omega
  by_cases c : (M.pl k).up = -1
  ·refine ⟨81, M, R, rk, hI, .refl M, .inr ⟨rfl, rfl⟩, ⟨by decide, by decide⟩, fun K w p h => (zhr K p k M R w h hI.good.wf hk (by omega)).mono ?_, fun K w p h => (zgc K p k M R G w h hk (by omega) (hI.ups hk) hrl).mono ?_⟩
   ·rintro e w' ⟨hK, ⟨-, rfl, hX⟩ | ⟨c', -, -⟩⟩
    ·exact ⟨rfl, hX, hK⟩
    ·exact absurd c c'
   ·rintro e w' ⟨hK, ⟨-, rfl, hX⟩ | ⟨c', -, -⟩⟩
    ·exact ⟨rfl, hX, hK⟩
    ·exact absurd c c'
  ·refine ⟨0, _, _, rk, hI.out hk, .same rfl rfl (fun _ => rfl), .inl rfl, ⟨by decide, by decide⟩, fun K w p h => (zhr K p k M R w h hI.good.wf hk (by omega)).mono ?_, fun K w p h => (zgc K p k M R G w h hk (by omega) (hI.ups hk) hrl).mono ?_⟩
   ·rintro e w' ⟨hK, ⟨c', -, -⟩ | ⟨-, rfl, hX⟩⟩
    ·exact absurd c' c
    ·exact ⟨rfl, hX, hK⟩
   ·rintro e w' ⟨hK, ⟨c', -, -⟩ | ⟨-, rfl, hX⟩⟩
    ·exact absurd c' c
    ·exact ⟨rfl, RX.out hI.good.wf hk hX, hK⟩
theorem zj8 (hI : Inv M R G rk) (hn : M.n <= 100000) (i : Int) (S : ByteArray) (hS : S.size < 1000000) : ∃ z M' rk', Inv M' R G rk' /\ Zc2 M M' /\ (z = 0 \/ M' = M) /\ (0 <= z /\ z <= 200) /\
  (∀ K w p, DX K w p M -> Calls Tryz.prog 101 #[.pointer (some ⟨p, 0, none⟩), .int .i64 i, .string S] w fun e w' => e = .returned (.int .u16 z) /\ DX K w' p M' /\ Kept K w w') /\
  (∀ K w p, RX K TT w p M R G -> Calls Tryz.prog 102 #[.pointer (some ⟨p, 0, none⟩), .int .i64 i, .string S] w fun e w' => e = .returned (.int .i64 z) /\ RX K TT w' p M' R G /\ Kept K w w') := by
 by_cases hno : i < 0 \/ (M.n : Int) <= i
 ·refine ⟨80, M, rk, hI, .refl M, .inr rfl, ⟨by decide, by decide⟩, fun K w p h => (zkd K p M i S w h hno (by omega)).mono ?_, fun K w p h => (zi5 K p M R G i S w h hno).mono ?_⟩
  ·rintro e w' ⟨rfl, rfl⟩; exact ⟨rfl, h, Kept.refl _ _⟩
  ·rintro e w' ⟨rfl, rfl⟩; exact ⟨rfl, h, Kept.refl _ _⟩
 ·obtain ⟨k, hk, rfl⟩ := zdu hno
  by_cases c : (M.nd k).kind = 2 \/ (M.nd k).kind = 3
  ·refine ⟨0, M.setN k { M.nd k with data := S.toList }, rk, hI.setN hk rfl rfl rfl rfl rfl (fun e => (hI.core.el k hk e).2) (fun e => hI.core.oth k hk e) (fun h5 => zhf c _ (hI.ex.snd k hk h5)) ⟨by show S.toList.length < 1000000; rw [show S.toList.length = S.size from by rw [ByteArray.toList_eq]; rfl]; exact hS, (hI.ex.okd k hk).2⟩, .setN rfl rfl rfl rfl rfl, .inl rfl, ⟨by decide, by decide⟩, fun K w p h => (zj5 K p k M S w h hk (by omega)).mono ?_, fun K w p h => (zhz K p k M R G S w h hk (by omega)).mono ?_⟩
   ·rintro e w' ⟨hK, ⟨⟨c1, c2⟩, -, -⟩ | ⟨-, rfl, hX⟩⟩
    ·rcases c with c | c
     ·exact absurd c c1
     ·exact absurd c c2
    ·exact ⟨rfl, hX, hK⟩
   ·rintro e w' ⟨hK, ⟨⟨c1, c2⟩, -, -⟩ | ⟨-, rfl, hX⟩⟩
    ·rcases c with c | c
     ·exact absurd c c1
     ·exact absurd c c2
    ·exact ⟨rfl, hX, hK⟩
  ·refine ⟨81, M, rk, hI, .refl M, .inr rfl, ⟨by decide, by decide⟩, fun K w p h => (zj5 K p k M S w h hk (by omega)).mono ?_, fun K w p h => (zhz K p k M R G S w h hk (by omega)).mono ?_⟩
   ·rintro e w' ⟨hK, ⟨-, rfl, hX⟩ | ⟨c', -, -⟩⟩
    ·exact ⟨rfl, hX, hK⟩
    ·exact absurd c' c
   ·rintro e w' ⟨hK, ⟨-, rfl, hX⟩ | ⟨c', -, -⟩⟩
    ·exact ⟨rfl, hX, hK⟩
    ·exact absurd c' c
theorem zjj (M : Dm) (i : Int) : 0 <= zel M i /\ zel M i <= 200 := by
 unfold zel
 split
 ·split <;> decide
 ·decide
theorem zjc {i : Int} (h : zel M i = 0) : ∃ k : Nat, k < M.n /\ i = (k : Int) /\ (M.nd k).kind = 1 := by
 unfold zel at h
 by_cases c : 0 <= i /\ i < (M.n : Int)
 ·rw [if_pos c] at h
  refine ⟨i.toNat, by omega, by omega, ?_⟩
  by_cases c2 : (M.nd i.toNat).kind = 1
  ·exact c2
  ·rw [if_neg c2] at h; cases h
 ·rw [if_neg c] at h; cases h
theorem zod (hI : Inv M R G rk) (hn : M.n <= 100000) (i : Int) (S T : ByteArray) (hS : S.size < 1000000) (hT : T.size < 1000000) : ∃ z M' rk', Inv M' R G rk' /\ Zc2 M M' /\ (z = 0 \/ M' = M) /\ (0 <= z /\ z <= 200) /\
  (∀ K w p, DX K w p M -> Calls Tryz.prog 62 #[.pointer (some ⟨p, 0, none⟩), .int .i64 i, .string S, .string T] w fun e w' => e = .returned (.int .u16 z) /\ DX K w' p M' /\ Kept K w w') /\
  (∀ K w p, RX K TT w p M R G -> Calls Tryz.prog 98 #[.pointer (some ⟨p, 0, none⟩), .int .i64 i, .string S, .string T] w fun e w' => e = .returned (.int .i64 z) /\ RX K TT w' p M' R G /\ Kept K w w') := by
 by_cases h0 : zel M i = 0
 ·obtain ⟨k, hk, rfl, hk1⟩ := zjc h0
  obtain ⟨zf, hzf⟩ := Zc7.ex (M.nd k).attrs S.toList
  have hs := (hI.core.el k hk hk1).2
  have hv := (hI.core.el k hk hk1).1
  have hfew := hI.core.few hk
  have hiff := zk8 hs ⟨S.toList, T.toList⟩ hzf
  have hsz : ∀ x ∈ (M.nd k).attrs, x.name.length <= 1000000000 /\ x.value.length <= 1000000000 := fun x hx => by have := hI.core.atr hk x hx; omega
  have pd := fun K w p h => zre K p k M S T w h hk (by omega) hk1 (by omega) hsz (by omega) (by omega)
  rw [znm hv] at pd
  obtain ⟨q, hq⟩ : ∃ q, zbg ⟨S.toList, T.toList⟩ = q := ⟨_, rfl⟩
  rw [hq] at hiff
  by_cases hb : q = true /\ (zf = -1 -> (M.nd k).attrs.length < 50)
  ·have hgood : za3 (setA (M.nd k).attrs ⟨S.toList, T.toList⟩) = true := by
    rw [hiff, hb.1]
    by_cases c : zf = -1
    ·have := hb.2 c
     rw [decide_eq_false (by omega : ¬ 50 <= (M.nd k).attrs.length)]; simp
    ·rw [decide_eq_false c]; rfl
   refine ⟨0, M.setN k { M.nd k with attrs := setA (M.nd k).attrs ⟨S.toList, T.toList⟩ }, rk, hI.setN hk rfl rfl rfl rfl rfl (fun _ => hgood) (fun e => absurd hk1 e) (fun h5 => zhj hk1 (zdo (x := M.nd k) hk1 (hI.ex.snd k hk h5)) hv hgood) (hI.ex.okd k hk), .setN rfl rfl rfl rfl rfl, .inl rfl, ⟨by decide, by decide⟩, fun K w p h => (pd K w p h).mono ?_, fun K w p h => (zlr K p k M R G S T w h hk (by omega) hk1 (by omega) hS zf hzf q hq hb.1 hb.2).mono ?_⟩
   ·rintro e w' ⟨⟨-, rfl, hX⟩ | ⟨c, -, -⟩, hK⟩
    ·exact ⟨rfl, hX, hK⟩
    ·rw [hgood] at c; cases c
   ·rintro e w' ⟨rfl, hK, hX⟩
    exact ⟨rfl, hX, hK⟩
  ·have hb' : q = false \/ (zf = -1 /\ 50 <= (M.nd k).attrs.length) := by
    cases q with
    | false => exact .inl rfl
    | true =>
     right
     by_cases c : zf = -1
     ·exact ⟨c, Nat.le_of_not_lt fun hl => hb ⟨rfl, fun _ => hl⟩⟩
     ·exact absurd ⟨rfl, fun e => absurd e c⟩ hb
   have hbad : za3 (setA (M.nd k).attrs ⟨S.toList, T.toList⟩) = false := by
    rw [hiff]
    rcases hb' with rfl | ⟨c, c2⟩
    ·rfl
    ·rw [decide_eq_true c, decide_eq_true c2]; simp
   refine ⟨82, M, rk, hI, .refl M, .inr rfl, ⟨by decide, by decide⟩, fun K w p h => (pd K w p h).mono ?_, fun K w p h => (zof K p k M R G S T w h hk (by omega) hk1 (by omega) hS zf hzf q hq hb').mono ?_⟩
   ·rintro e w' ⟨⟨c, -, -⟩ | ⟨-, rfl, hX⟩, hK⟩
    ·rw [hbad] at c; cases c
    ·exact ⟨rfl, hX, hK⟩
   ·rintro e w' ⟨rfl, hK, hX⟩
    exact ⟨rfl, hX, hK⟩
 ·refine ⟨zel M i, M, rk, hI, .refl M, .inr rfl, zjj M i, fun K w p h => (zq0 K p M i S T w h (by omega) _ rfl h0).mono ?_, fun K w p h => (zqk K p M R G i S T w h (by omega) _ rfl h0).mono ?_⟩
  ·rintro e w' ⟨rfl, rfl⟩; exact ⟨rfl, h, Kept.refl _ _⟩
  ·rintro e w' ⟨rfl, rfl⟩; exact ⟨rfl, h, Kept.refl _ _⟩
theorem zmn (hI : Inv M R G rk) (hn : M.n <= 100000) (i : Int) (S : ByteArray) : ∃ z M' rk', Inv M' R G rk' /\ Zc2 M M' /\ (z = 0 \/ M' = M) /\ (0 <= z /\ z <= 200) /\
  (∀ K w p, DX K w p M -> Calls Tryz.prog 99 #[.pointer (some ⟨p, 0, none⟩), .int .i64 i, .string S] w fun e w' => e = .returned (.int .u16 z) /\ DX K w' p M' /\ Kept K w w') /\
  (∀ K w p, RX K TT w p M R G -> Calls Tryz.prog 100 #[.pointer (some ⟨p, 0, none⟩), .int .i64 i, .string S] w fun e w' => e = .returned (.int .i64 z) /\ RX K TT w' p M' R G /\ Kept K w w') := by
 by_cases h0 : zel M i = 0
 ·obtain ⟨k, hk, rfl, hk1⟩ := zjc h0
  obtain ⟨zf, hzf⟩ := Zc7.ex (M.nd k).attrs S.toList
  have hs := (hI.core.el k hk hk1).2
  have hfew := hI.core.few hk
  have pd := fun K w p h => zpw K p k M S w h hk (by omega) hk1 (by omega)
  cases hzf with
  | no hno =>
   refine ⟨82, M, rk, hI, .refl M, .inr rfl, ⟨by decide, by decide⟩, fun K w p h => (pd K w p h).mono ?_, fun K w p h => (zky K p k M R G S w h hk (by omega) hk1 (by omega) hno).mono ?_⟩
   ·rintro e w' ⟨⟨j, hj, e1, -⟩ | ⟨-, rfl, hX⟩, hK⟩
    ·exact absurd e1 (hno _ (List.getElem_mem hj))
    ·exact ⟨rfl, hX, hK⟩
   ·rintro e w' ⟨rfl, rfl⟩; exact ⟨rfl, h, Kept.refl _ _⟩
  | @yes j hj e1 ha =>
   refine ⟨0, M.setN k { M.nd k with attrs := (M.nd k).attrs.eraseIdx j }, rk, hI.setN hk rfl rfl rfl rfl rfl (fun _ => zet hs j) (fun e => absurd hk1 e) (fun h5 => zhj hk1 (zdo (x := M.nd k) hk1 (hI.ex.snd k hk h5)) (hI.core.el k hk hk1).1 (zet hs j)) (hI.ex.okd k hk), .setN rfl rfl rfl rfl rfl, .inl rfl, ⟨by decide, by decide⟩, fun K w p h => (pd K w p h).mono ?_, fun K w p h => (zo9 K p k j M R G S w h hk (by omega) hk1 (by omega) hj (.yes hj e1 ha)).mono ?_⟩
   ·rintro e w' ⟨⟨j', hj', e1', ha', rfl, hX⟩ | ⟨hno, -, -⟩, hK⟩
    ·have := Zc7.one (.yes hj e1 ha) (.yes hj' e1' ha')
     have : j = j' := by omega
     subst this
     exact ⟨rfl, hX, hK⟩
    ·exact absurd e1 (hno _ (List.getElem_mem hj))
   ·rintro e w' ⟨rfl, hK, hX⟩
    exact ⟨rfl, hX, hK⟩
 ·refine ⟨zel M i, M, rk, hI, .refl M, .inr rfl, zjj M i, fun K w p h => (zqi K p M i S w h (by omega) _ rfl h0).mono ?_, fun K w p h => (znz K p M R G i S w h (by omega) _ rfl h0).mono ?_⟩
  ·rintro e w' ⟨rfl, rfl⟩; exact ⟨rfl, h, Kept.refl _ _⟩
  ·rintro e w' ⟨rfl, rfl⟩; exact ⟨rfl, h, Kept.refl _ _⟩
end
end
section
open Go.RowKit
theorem Gives.ex (M : Dm) (slot : Int) (l : List Int) : ∃ z, Gives M slot l z := by
 by_cases h1 : inN M.n slot
 ·by_cases h2 : ∀ x ∈ l, inN M.n x
  ·have n2 : ¬ ∃ x ∈ l, ¬ inN M.n x := fun ⟨x, hx, hn⟩ => hn (h2 x hx)
   by_cases h3 : (M.nd slot.toNat).kind = 1 /\ (M.nd slot.toNat).name = zeg
   ·by_cases h4 : ∀ x ∈ l, shows M x
    ·have n4 : ¬ ∃ x ∈ l, ¬ shows M x := fun ⟨x, hx, hn⟩ => hn (h4 x hx)
     by_cases h5 : l.length <= 200
     ·exact ⟨0, fun h => absurd h1 h, fun _ h => absurd h n2, fun _ _ h => by
       rcases h with h | h
       ·exact absurd h3.1 h
       ·exact absurd h3.2 h, fun _ _ _ _ h => absurd h n4, fun _ _ _ _ _ h => by omega, fun _ _ _ _ _ _ => rfl⟩
     ·exact ⟨1, fun h => absurd h1 h, fun _ h => absurd h n2, fun _ _ h => by
       rcases h with h | h
       ·exact absurd h3.1 h
       ·exact absurd h3.2 h, fun _ _ _ _ h => absurd h n4, fun _ _ _ _ _ _ => rfl, fun _ _ _ _ _ h => absurd h h5⟩
    ·exact ⟨81, fun h => absurd h1 h, fun _ h => absurd h n2, fun _ _ h => by
      rcases h with h | h
      ·exact absurd h3.1 h
      ·exact absurd h3.2 h, fun _ _ _ _ _ => rfl, fun _ _ _ _ h => absurd h h4, fun _ _ _ _ h => absurd h h4⟩
   ·exact ⟨110, fun h => absurd h1 h, fun _ h => absurd h n2, fun _ _ _ => rfl, fun _ _ a b => absurd ⟨a, b⟩ h3, fun _ _ a b => absurd ⟨a, b⟩ h3, fun _ _ a b => absurd ⟨a, b⟩ h3⟩
  ·exact ⟨80, fun _ => rfl, fun _ _ => rfl, fun _ h => absurd h h2, fun _ h => absurd h h2, fun _ h => absurd h h2, fun _ h => absurd h h2⟩
 ·exact ⟨80, fun _ => rfl, fun h => absurd h h1, fun h => absurd h h1, fun h => absurd h h1, fun h => absurd h h1, fun h => absurd h h1⟩
theorem Gives.le {M : Dm} {slot : Int} {l : List Int} {z : Int} (h : Gives M slot l z) : 0 <= z /\ z <= 200 := by
 by_cases h1 : inN M.n slot
 ·by_cases h2 : ∃ x ∈ l, ¬ inN M.n x
  ·rw [h.gOne h1 h2]; decide
  ·have h2 : ∀ x ∈ l, inN M.n x := fun x hx => Classical.byContradiction fun c => h2 ⟨x, hx, c⟩
   by_cases h3 : (M.nd slot.toNat).kind = 1 /\ (M.nd slot.toNat).name = zeg
   ·by_cases h4 : ∃ x ∈ l, ¬ shows M x
    ·rw [h.gShow h1 h2 h3.1 h3.2 h4]; decide
    ·have h4 : ∀ x ∈ l, shows M x := fun x hx => Classical.byContradiction fun c => h4 ⟨x, hx, c⟩
     by_cases h5 : l.length <= 200
     ·rw [h.gOk h1 h2 h3.1 h3.2 h4 h5]; decide
     ·rw [h.gMany h1 h2 h3.1 h3.2 h4 (by omega)]; decide
   ·rw [h.gSlot h1 h2 (by
     by_cases c1 : (M.nd slot.toNat).kind = 1
     ·exact .inr fun c2 => h3 ⟨c1, c2⟩
     ·exact .inl c1)]; decide
 ·rw [h.gNone h1]; decide
theorem Gives.all2 {M : Dm} {slot : Int} {l : List Int} (h : Gives M slot l 0) : (M.nd slot.toNat).kind = 1 /\ (M.nd slot.toNat).name = zeg /\ ∀ x ∈ l, shows M x := by
 have h1 : inN M.n slot := Classical.byContradiction fun c => by have := h.gNone c; cases this
 have h2 : ∀ x ∈ l, inN M.n x := fun x hx => Classical.byContradiction fun c => by have := h.gOne h1 ⟨x, hx, c⟩; cases this
 have h3 : (M.nd slot.toNat).kind = 1 /\ (M.nd slot.toNat).name = zeg := Classical.byContradiction fun c => by
  have := h.gSlot h1 h2 (by
   by_cases c1 : (M.nd slot.toNat).kind = 1
   ·exact .inr fun c2 => c ⟨c1, c2⟩
   ·exact .inl c1)
  cases this
 exact ⟨h3.1, h3.2, fun x hx => Classical.byContradiction fun c => by have := h.gShow h1 h2 h3.1 h3.2 ⟨x, hx, c⟩; cases this⟩
theorem zi9 {L : Nat -> Lk} {G : Nat -> List Nat} {x u k : Nat} (h : k ∈ zcy L G x u) : k ∈ G u := by
 unfold zcy at h
 by_cases c : (L x).up = -1
 ·rw [if_pos c] at h; exact h
 ·rw [if_neg c] at h
  by_cases cu : u = (L x).up.toNat
  ·rw [cu, zaf] at h; rw [cu]; exact List.mem_of_mem_erase h
  ·rw [zaj _ _ cu] at h; exact h
theorem zly (slot : Nat) : ∀ (l : List Nat) (L : Nat -> Lk) (G : Nat -> List Nat) (u k : Nat), k ∈ gsR slot L G l u -> k ∈ G u \/ (u = slot /\ k ∈ l)
 | [], L, G, u, k, h => .inl h
 | x :: r, L, G, u, k, h => by
  rcases zly slot r _ _ u k h with h | ⟨h1, h2⟩
  ·by_cases c : (L x).up = (slot : Int)
   ·rw [if_pos c] at h; exact .inl h
   ·rw [if_neg c] at h
    by_cases cu : u = slot
    ·subst cu
     rw [zaf] at h
     rcases List.mem_append.1 h with h | h
     ·exact .inl (zi9 h)
     ·rw [List.mem_singleton.1 h]; exact .inr ⟨rfl, List.mem_cons_self ..⟩
    ·rw [zaj _ _ cu] at h; exact .inl (zi9 h)
  ·exact .inr ⟨h1, List.mem_cons_of_mem _ h2⟩
theorem Gives.all {M : Dm} {slot : Int} {l : List Int} (h : Gives M slot l 0) : inN M.n slot /\ (∀ x ∈ l, inN M.n x) /\ l.length <= 200 := by
 have h1 : inN M.n slot := Classical.byContradiction fun c => by have := h.gNone c; cases this
 have h2 : ∀ x ∈ l, inN M.n x := fun x hx => Classical.byContradiction fun c => by have := h.gOne h1 ⟨x, hx, c⟩; cases this
 have h3 : (M.nd slot.toNat).kind = 1 /\ (M.nd slot.toNat).name = zeg := Classical.byContradiction fun c => by
  have := h.gSlot h1 h2 (by
   by_cases c1 : (M.nd slot.toNat).kind = 1
   ·exact .inr fun c2 => c ⟨c1, c2⟩
   ·exact .inl c1)
  cases this
 have h4 : ∀ x ∈ l, shows M x := fun x hx => Classical.byContradiction fun c => by have := h.gShow h1 h2 h3.1 h3.2 ⟨x, hx, c⟩; cases this
 refine ⟨h1, h2, Nat.le_of_not_lt fun c => ?_⟩
 have := h.gMany h1 h2 h3.1 h3.2 h4 c
 cases this
theorem zn8 (K : Nat -> Prop) (p : Nat) (slot : Int) (l : List Int) (n : Nat) (hln : l.length = n) (hnl : n <= 1000000) (a : Option Addr) (cap : Nat) (M : Dm) (R G : Nat -> List Nat) (w : World) (h : RX K TT w p M R G) (hn : M.n <= 1000000) (hr : Zbo (fun k => k < w.heap.size) w a l) (z : Int) (hz : Gives M slot l z) (hz0 : z ≠ 0) :
  Calls Tryz.prog 104 #[.pointer (some ⟨p, 0, none⟩), .int .i64 slot, .slice a n cap] w fun e w' => e = .returned (.int .i64 z) /\ Kept (fun k => k < w.heap.size) w w' := by
 have rm : Calls Tryz.prog 182 #[.pointer (some ⟨p, 0, none⟩), .int .i64 slot, .slice a n cap] w fun e w' => e = .returned (.int .i64 z) /\ Kept (fun k => k < w.heap.size) w w' := by
  by_cases hs : slot < 0 \/ (M.n : Int) <= slot
  ·have : z = 80 := hz.gNone (by unfold inN; omega)
   subst this
   refine (ziu K p M R G slot a n cap w h hs).mono ?_
   rintro e w' ⟨rfl, rfl⟩
   exact ⟨rfl, Kept.refl _ _⟩
  ·obtain ⟨s, hs', rfl⟩ := zdu hs
   exact zhq K p s M R G l a n cap w h hs' hn hln hnl hr z hz
 have hzn : (z != 0) = true := by simpa using hz0
 clear h hr hz hln
 go_enter Tryz.func104, Tryz.ntmps104
 go_wp2_with (go_at_call 182; refine rm.mono ?_; rintro e w1 ⟨rfl, k1⟩)
 go_ret
 exact ⟨rfl, k1⟩
theorem zkc {M : Dm} {host : Nat} {f : Fg} (hh : host < M.n) (hs : (M.nd host).shadow = -1) (hL : M.n + 1 <= M.limit) : Grows M (M.addR host f) := by
 have hne : host ≠ M.n := by omega
 have old : ∀ i, i < M.n -> i ≠ host -> (M.addR host f).nd i = M.nd i := fun i hi c => zdj M host f (by omega) c
 have hot := zc0 M host f hne
 refine ⟨Nat.le_succ _, rfl, fun _ => hL, fun i hi => ?_, fun i hi => ?_, fun i hi => ?_, fun i hi => ?_, fun i hi hsi => ?_⟩ <;> (by_cases c : i = host)
 ·subst c; rw [hot]
 ·rw [old i hi c]
 ·subst c; rw [hot]
 ·rw [old i hi c]
 ·subst c; rw [hot]
 ·rw [old i hi c]
 ·subst c; rw [hot]
 ·rw [old i hi c]
 ·subst c; exact absurd hs hsi
 ·rw [old i hi c]
theorem zmy {M : Dm} {x : Nd} (hL : M.n + 1 <= M.limit) (hx : x.kind ≠ 5) : Zc2 M (M.add x) := by
 have old : ∀ i, i < M.n -> (M.add x).nd i = M.nd i := fun i hi => zam M x (by omega)
 refine ⟨⟨Nat.le_succ _, rfl, fun _ => hL, fun i hi => by rw [old i hi], fun i hi => by rw [old i hi], fun i hi => by rw [old i hi], fun i hi => by rw [old i hi], fun i hi _ => by rw [old i hi]⟩, fun i h1 h2 => ?_⟩
 obtain rfl : i = M.n := Nat.le_antisymm (Nat.le_of_lt_succ h2) h1
 rw [zav]
 exact hx
theorem zku {M : Dm} {x : Nd} (hL : M.n + 2 <= M.limit) (hx : x.kind ≠ 5) : Zc2 M (M.addT x) := by
 have old : ∀ i, i < M.n -> (M.addT x).nd i = M.nd i := fun i hi => by
  rw [zcp M x (by omega) (by omega), zam _ _ (by show i ≠ M.n + 1; omega), zam _ _ (by omega)]
 refine ⟨⟨by show M.n <= M.n + 2; omega, rfl, fun _ => hL, fun i hi => by rw [old i hi], fun i hi => by rw [old i hi], fun i hi => by rw [old i hi], fun i hi => by rw [old i hi], fun i hi _ => by rw [old i hi]⟩, fun i h1 h2 => ?_⟩
 rw [(zns M x i).1]
 have h3 : i < M.n + 2 := h2
 by_cases c : i = M.n
 ·subst c
  rw [zam _ _ (by show M.n ≠ M.n + 1; omega), zav]
  exact hx
 ·obtain rfl : i = M.n + 1 := by omega
  rw [show ((M.add x).add za4).nd (M.n + 1) = za4.new from zav (M.add x) za4]
  decide
section
variable {M : Dm} {R G : Nat -> List Nat} {rk : Nat -> Nat}
theorem znb (hI : Inv M R G rk) (hn : M.n <= 100000) (hL : M.limit <= 100000) (i : Int) (f : Fg) : ∃ v z M' R' G' rk', Inv M' R' G' rk' /\ Grows M M' /\ (z = 0 \/ (M' = M /\ R' = R /\ G' = G)) /\ (0 <= z /\ z <= 200) /\
  (∀ K w p, DX K w p M -> Calls Tryz.prog 69 #[.pointer (some ⟨p, 0, none⟩), .int .i64 i, fgV f] w fun e w' => e = .returned (.tuple #[.int .i64 v, .int .u16 z]) /\ DX K w' p M' /\ Kept K w w') /\
  (∀ K w p, RX K TT w p M R G -> Calls Tryz.prog 97 #[.pointer (some ⟨p, 0, none⟩), .int .i64 i, fgV f] w fun e w' => e = .returned (.tuple #[.int .i64 v, .int .i64 z]) /\ RX K TT w' p M' R' G' /\ Kept K w w') := by
 by_cases hno : i < 0 \/ (M.n : Int) <= i
 ·refine ⟨0, 80, M, R, G, rk, hI, .refl M, .inr ⟨rfl, rfl, rfl⟩, ⟨by decide, by decide⟩, fun K w p h => (zm9 K p M i f w h hno (by omega)).mono ?_, fun K w p h => (zj7 K p M R G i f w h hno).mono ?_⟩
  ·rintro e w' ⟨rfl, hK⟩; exact ⟨rfl, h.kept hK, hK.mono h.lt⟩
  ·rintro e w' ⟨rfl, hK⟩; exact ⟨rfl, h.kept hK, hK.mono h.lt⟩
 ·obtain ⟨k, hk, rfl⟩ := zdu hno
  have pd := fun K w p h => zmh K p k M f w h hk hn hL
  have hsh : (M.nd k).shadow = -1 \/ 0 <= (M.nd k).shadow := by
   rcases hI.core.shad k hk with e | ⟨q, -, e, -⟩
   ·exact .inl e
   ·exact .inr (by omega)
  have pr := fun K w p h => zjb (J := TT) K p k M R G f w h hk hn hL hsh
  by_cases c1 : (M.nd k).kind = 1
  ·by_cases c2 : (M.nd k).shadow = -1
   ·by_cases c3 : M.n + 1 <= M.limit
    ·obtain ⟨rk', hI'⟩ := hI.addR f hk c1 c2
     refine ⟨(M.n : Int), 0, _, _, _, rk', hI', zkc hk c2 c3, .inl rfl, ⟨by decide, by decide⟩, fun K w p h => (pd K w p h).mono ?_, fun K w p h => (pr K w p h).mono ?_⟩
     ·rintro e w' ⟨hK, hR⟩
      cases hR with
      | host a _ _ => exact absurd c1 a
      | twice _ a _ _ => exact absurd c2 a
      | full _ _ a _ _ => omega
      | made _ _ _ e hX => exact ⟨e, hX, hK⟩
     ·rintro e w' ⟨hK, hR⟩
      cases hR with
      | host a _ _ => exact absurd c1 a
      | twice _ a _ _ => exact absurd c2 a
      | full _ _ a _ _ => omega
      | made _ _ _ e hX => exact ⟨e, hX, hK⟩
    ·refine ⟨0, 3, M, R, G, rk, hI, .refl M, .inr ⟨rfl, rfl, rfl⟩, ⟨by decide, by decide⟩, fun K w p h => (pd K w p h).mono ?_, fun K w p h => (pr K w p h).mono ?_⟩
     ·rintro e w' ⟨hK, hR⟩
      cases hR with
      | host a _ _ => exact absurd c1 a
      | twice _ a _ _ => exact absurd c2 a
      | full _ _ a e hX => exact ⟨e, hX, hK⟩
      | made _ _ a _ _ => omega
     ·rintro e w' ⟨hK, hR⟩
      cases hR with
      | host a _ _ => exact absurd c1 a
      | twice _ a _ _ => exact absurd c2 a
      | full _ _ a e hX => exact ⟨e, hX, hK⟩
      | made _ _ a _ _ => omega
   ·refine ⟨0, 101, M, R, G, rk, hI, .refl M, .inr ⟨rfl, rfl, rfl⟩, ⟨by decide, by decide⟩, fun K w p h => (pd K w p h).mono ?_, fun K w p h => (pr K w p h).mono ?_⟩
    ·rintro e w' ⟨hK, hR⟩
     cases hR with
     | host a _ _ => exact absurd c1 a
     | twice _ a e hX => exact ⟨e, hX, hK⟩
     | full _ a _ _ _ => exact absurd a c2
     | made _ a _ _ _ => exact absurd a c2
    ·rintro e w' ⟨hK, hR⟩
     cases hR with
     | host a _ _ => exact absurd c1 a
     | twice _ a e hX => exact ⟨e, hX, hK⟩
     | full _ a _ _ _ => exact absurd a c2
     | made _ a _ _ _ => exact absurd a c2
  ·refine ⟨0, 100, M, R, G, rk, hI, .refl M, .inr ⟨rfl, rfl, rfl⟩, ⟨by decide, by decide⟩, fun K w p h => (pd K w p h).mono ?_, fun K w p h => (pr K w p h).mono ?_⟩
   ·rintro e w' ⟨hK, hR⟩
    cases hR with
    | host a e hX => exact ⟨e, hX, hK⟩
    | twice a _ _ _ => exact absurd a c1
    | full a _ _ _ _ => exact absurd a c1
    | made a _ _ _ _ => exact absurd a c1
   ·rintro e w' ⟨hK, hR⟩
    cases hR with
    | host a e hX => exact ⟨e, hX, hK⟩
    | twice a _ _ _ => exact absurd a c1
    | full a _ _ _ _ => exact absurd a c1
    | made a _ _ _ _ => exact absurd a c1
theorem zhi (hI : Inv M R G rk) (hn : M.n <= 100000) (slot : Int) (l : List Int) (n : Nat) (hln : l.length = n) (hnl : n <= 1000000) (a : Option Addr) (cap : Nat) : ∃ z M' G' rk', Inv M' R G' rk' /\ Zc2 M M' /\ (z = 0 \/ (M' = M /\ G' = G)) /\ (0 <= z /\ z <= 200) /\
  (∀ K w p, DX K w p M -> Zbo K w a l -> Calls Tryz.prog 103 #[.pointer (some ⟨p, 0, none⟩), .int .i64 slot, .slice a n cap] w fun e w' => e = .returned (.int .u16 z) /\ DX K w' p M' /\ Kept K w w') /\
  (∀ K w p, RX K TT w p M R G -> Zbo K w a l -> Calls Tryz.prog 104 #[.pointer (some ⟨p, 0, none⟩), .int .i64 slot, .slice a n cap] w fun e w' => e = .returned (.int .i64 z) /\ RX K TT w' p M' R G' /\ Kept K w w') := by
 obtain ⟨z, hz⟩ := Gives.ex M slot l
 by_cases h0 : z = 0
 ·subst h0
  obtain ⟨hs, hall, hfew⟩ := hz.all
  obtain ⟨s, rfl⟩ : ∃ s : Nat, slot = (s : Int) := ⟨slot.toNat, by have := hs.1; omega⟩
  have hsn : s < M.n := by have := hs.2; omega
  obtain ⟨l', rfl⟩ : ∃ l' : List Nat, l = l'.map fun k : Nat => (k : Int) := ⟨l.map Int.toNat, by
   rw [List.map_map]
   symm
   have : ∀ x ∈ l, ((fun k : Nat => (k : Int)) ∘ Int.toNat) x = x := fun x hx => by have := (hall x hx).1; show ((x.toNat : Nat) : Int) = x; omega
   rw [List.map_congr_left this, List.map_id']⟩
  rw [List.length_map] at hln hfew
  have hl' : ∀ i ∈ l', i < M.n := fun i hi => by have := (hall (i : Int) (List.mem_map.2 ⟨i, hi, rfl⟩)).2; omega
  have hW0 := WF.outs hsn (G s) hI.gw rfl
  have hW1 := hW0.gs hsn l' hl'
  have hgf : Zi6 M (gsR s (zcj M.gf (G s)) (zax G s []) l') := fun u hu k hk => by
   rcases zly s l' _ _ u k hk with h | ⟨rfl, h⟩
   ·by_cases c : u = s
    ·subst c; rw [zaf] at h; cases h
    ·rw [zaj _ _ c] at h; exact hI.gft u hu k h
   ·obtain ⟨a1, a2, a3⟩ := hz.all2
    exact ⟨a3 (k : Int) (List.mem_map.2 ⟨k, h, rfl⟩), a1, a2⟩
  refine ⟨0, M.setG (zbi (zcj M.gf (G s)) s l'), gsR s (zcj M.gf (G s)) (zax G s []) l', rk, hI.setG hW1 hgf, .same rfl rfl (fun _ => rfl), .inl rfl, ⟨by decide, by decide⟩, fun K w p h hr => ?_, fun K w p h hr => ?_⟩
  ·have hR : Zr3 w a l' := fun j hj => by
    obtain ⟨g, o, e, -, hc⟩ := hr j (by rw [List.length_map]; exact hj)
    rw [List.getElem_map] at hc
    exact ⟨g, o, e, hc⟩
   have hRA : ∀ g o, a = some ⟨g, o, none⟩ -> l' ≠ [] -> K g := fun g o e hne => by
    obtain ⟨g', o', e', hg, -⟩ := hr 0 (by rw [List.length_map]; exact List.length_pos_iff.2 hne)
    rw [e] at e'
    injection e' with e'
    injection e' with e1 e2
    rw [e1]; exact hg
   refine (zn4 K p s l' n hln a cap M G w h hI.gw ⟨hsn, hl', by rw [hln]; omega, hz⟩ (by omega) hR hRA).mono ?_
   rintro e w' ⟨rfl, hX, hK⟩
   exact ⟨rfl, hX, hK⟩
  ·refine (zpc K p s l' n hln hnl a cap M R G w h hI.gw hsn (by omega) hl' hz (fun j hj => by
    obtain ⟨g, o, e, hg, hc⟩ := hr j (by rw [List.length_map]; exact hj)
    rw [List.getElem_map] at hc
    exact ⟨g, o, e, hg, hc⟩)).mono ?_
   rintro e w' ⟨rfl, hX, hK⟩
   exact ⟨rfl, hX.congr rfl rfl (fun _ _ => rfl) (fun _ _ => rfl) (fun _ _ => rfl) (fun _ _ => rfl), hK⟩
 ·refine ⟨z, M, G, rk, hI, .refl M, .inr ⟨rfl, rfl⟩, hz.le, fun K w p h hr => (zqw K p slot l n hln hnl a cap M w h (by omega) (fun j hj => by
   obtain ⟨g, o, e, hg, hc⟩ := hr j hj
   exact ⟨g, o, e, h.lt g hg, hc⟩) z hz h0).mono ?_, fun K w p h hr => (zn8 K p slot l n hln hnl a cap M R G w h (by omega) (fun j hj => by
   obtain ⟨g, o, e, hg, hc⟩ := hr j hj
   exact ⟨g, o, e, h.lt g hg, hc⟩) z hz h0).mono ?_⟩
  ·rintro e w' ⟨rfl, hK⟩; exact ⟨rfl, h.kept hK, hK.mono h.lt⟩
  ·rintro e w' ⟨rfl, hK⟩; exact ⟨rfl, h.kept hK, hK.mono h.lt⟩
theorem zmz (hI : Inv M R G rk) (hn : M.n <= 100000) (hL : M.limit <= 100000) (kd : Nat) (S D : ByteArray) (l : List Atr) (n : Nat) (hln : l.length = n) (hnl : n <= 1000000) (hsz : ∀ x ∈ l, x.name.length < 1000000 /\ x.value.length < 1000000) (hS : S.size < 1000000) (hO : Okd (Mk.nd ⟨kd, S.toList, D.toList, l⟩)) (aa : Option Addr) (ac : Nat) (hac : n <= ac) : ∃ v z M' R' G' rk', Inv M' R' G' rk' /\ Zc2 M M' /\ (z = 0 \/ (M' = M /\ R' = R /\ G' = G)) /\ (0 <= z /\ z <= 200) /\
  (∀ K w p, DX K w p M -> Zag (fun k => k < w.heap.size) w aa l -> Calls Tryz.prog 68 #[.pointer (some ⟨p, 0, none⟩), .agg (zar (kd : Int) S D aa n ac)] w fun e w' => e = .returned (.tuple #[.int .i64 v, .int .u16 z]) /\ DX K w' p M' /\ Kept K w w') /\
  (∀ K w p, RX K TT w p M R G -> Zag (fun k => k < w.heap.size) w aa l -> Calls Tryz.prog 106 #[.pointer (some ⟨p, 0, none⟩), .agg (zar (kd : Int) S D aa n ac)] w fun e w' => e = .returned (.tuple #[.int .i64 v, .int .i64 z]) /\ RX K TT w' p M' R' G' /\ Kept K w w') := by
 have pd : ∀ K w p, DX K w p M -> Zag (fun k => k < w.heap.size) w aa l -> Calls Tryz.prog 68 #[.pointer (some ⟨p, 0, none⟩), .agg (zar (kd : Int) S D aa n ac)] w fun e w' => Kept K w w' /\ Makes K p M ⟨kd, S.toList, D.toList, l⟩ e w' := fun K w p h ha => zgq K p kd S D l aa n ac ⟨0, none, 0, 0, 0, 0, 0, ⟨false, false, false, false, false⟩⟩ w M h hn hL hln (by omega) ha (fun x hx => by have := hsz x hx; omega)
 have pr : ∀ K w p, RX K TT w p M R G -> Zag (fun k => k < w.heap.size) w aa l -> Calls Tryz.prog 106 #[.pointer (some ⟨p, 0, none⟩), .agg (zar (kd : Int) S D aa n ac)] w fun e w' => Kept K w w' /\ RMakes K TT p M R G ⟨kd, S.toList, D.toList, l⟩ e w' := fun K w p h ha => zg8 K p kd S D l aa n ac w M R G h hn hL hln hnl hac ha (fun x hx => (hsz x hx).1) hS
 cases hs : zat ⟨kd, S.toList, D.toList, l⟩ with
 | false =>
  refine ⟨0, 1, M, R, G, rk, hI, .refl M, .inr ⟨rfl, rfl, rfl⟩, ⟨by decide, by decide⟩, fun K w p h ha => (pd K w p h ha).mono ?_, fun K w p h ha => (pr K w p h ha).mono ?_⟩
  ·rintro e w' ⟨hK, hM⟩
   cases hM with
   | arg _ e hX => exact ⟨e, hX, hK⟩
   | full a => rw [hs] at a; cases a
   | two a => rw [hs] at a; cases a
   | one a => rw [hs] at a; cases a
  ·rintro e w' ⟨hK, hM⟩
   cases hM with
   | arg _ e hX => exact ⟨e, hX, hK⟩
   | full a => rw [hs] at a; cases a
   | two a => rw [hs] at a; cases a
   | one a => rw [hs] at a; cases a
 | true =>
  have hok := zfc hs
  by_cases ht : kd = 1 /\ S.toList = zcw
  ·by_cases hr : M.n + 2 <= M.limit
   ·obtain ⟨rk', hI'⟩ := hI.addT (Mk.nd ⟨kd, S.toList, D.toList, l⟩) hok ht.1 hs ht.2 hO
    refine ⟨(M.n : Int), 0, _, _, _, rk', hI', zku hr hok.k5, .inl rfl, ⟨by decide, by decide⟩, fun K w p h ha => (pd K w p h ha).mono ?_, fun K w p h ha => (pr K w p h ha).mono ?_⟩
    ·rintro e w' ⟨hK, hM⟩
     cases hM with
     | arg a => rw [hs] at a; cases a
     | full _ a => rw [if_pos ht] at a; omega
     | two _ _ _ e hX => exact ⟨e, hX, hK⟩
     | one _ a => exact absurd ht a
    ·rintro e w' ⟨hK, hM⟩
     cases hM with
     | arg a => rw [hs] at a; cases a
     | full _ a => rw [if_pos ht] at a; omega
     | two _ _ _ e hX => exact ⟨e, hX, hK⟩
     | one _ a => exact absurd ht a
   ·refine ⟨0, 3, M, R, G, rk, hI, .refl M, .inr ⟨rfl, rfl, rfl⟩, ⟨by decide, by decide⟩, fun K w p h ha => (pd K w p h ha).mono ?_, fun K w p h ha => (pr K w p h ha).mono ?_⟩
    ·rintro e w' ⟨hK, hM⟩
     cases hM with
     | arg a => rw [hs] at a; cases a
     | full _ _ e hX => exact ⟨e, hX, hK⟩
     | two _ _ a => exact absurd a hr
     | one _ a => exact absurd ht a
    ·rintro e w' ⟨hK, hM⟩
     cases hM with
     | arg a => rw [hs] at a; cases a
     | full _ _ e hX => exact ⟨e, hX, hK⟩
     | two _ _ a => exact absurd a hr
     | one _ a => exact absurd ht a
  ·by_cases hr : M.n + 1 <= M.limit
   ·refine ⟨(M.n : Int), 0, _, _, _, rk, hI.add (Mk.nd ⟨kd, S.toList, D.toList, l⟩) hok hok.few hs ht (fun _ => by show S.toList.length < 1000000; rw [show S.toList.length = S.size from by rw [ByteArray.toList_eq]; rfl]; exact hS) hO, zmy hr hok.k5, .inl rfl, ⟨by decide, by decide⟩, fun K w p h ha => (pd K w p h ha).mono ?_, fun K w p h ha => (pr K w p h ha).mono ?_⟩
    ·rintro e w' ⟨hK, hM⟩
     cases hM with
     | arg a => rw [hs] at a; cases a
     | full _ a => rw [if_neg ht] at a; omega
     | two _ a => exact absurd a ht
     | one _ _ _ e hX => exact ⟨e, hX, hK⟩
    ·rintro e w' ⟨hK, hM⟩
     cases hM with
     | arg a => rw [hs] at a; cases a
     | full _ a => rw [if_neg ht] at a; omega
     | two _ a => exact absurd a ht
     | one _ _ _ e hX => exact ⟨e, hX, hK⟩
   ·refine ⟨0, 3, M, R, G, rk, hI, .refl M, .inr ⟨rfl, rfl, rfl⟩, ⟨by decide, by decide⟩, fun K w p h ha => (pd K w p h ha).mono ?_, fun K w p h ha => (pr K w p h ha).mono ?_⟩
    ·rintro e w' ⟨hK, hM⟩
     cases hM with
     | arg a => rw [hs] at a; cases a
     | full _ _ e hX => exact ⟨e, hX, hK⟩
     | two _ a => exact absurd a ht
     | one _ _ a => exact absurd a hr
    ·rintro e w' ⟨hK, hM⟩
     cases hM with
     | arg a => rw [hs] at a; cases a
     | full _ _ e hX => exact ⟨e, hX, hK⟩
     | two _ a => exact absurd a ht
     | one _ _ a => exact absurd a hr
end
end
section
open Go.RowKit
theorem Two.elt {K E : Nat -> Prop} {w : World} {p r : Nat} {M : Dm} {R G : Nat -> List Nat} (h : Two K E w p r M R G) : ∀ k, E k -> k < w.heap.size := fun k hk => h.d.lt k (.inr hk)
theorem Two.more {K K' E : Nat -> Prop} {w w' : World} {p r : Nat} {M : Dm} {R G : Nat -> List Nat} (h : Two K E w p r M R G) (hk : Kept (fun k => k < w.heap.size) w w') (hs : ∀ k, k < w.heap.size -> K' k -> K k) (hl : ∀ k, K' k -> k < w'.heap.size) : Two K' E w' p r M R G := by
 refine ⟨h.d.move (fun g hg _ => hk.block g hg) (fun k hl' hh => ?_) (fun k hh => ?_), h.r.move (fun g hg _ => hk.block g hg) hk.size (fun k hl' hh => ?_) (fun k hh => ?_), fun k he hk' => ?_⟩
 ·rcases hh with hh | hh
  ·exact .inl (hs k hl' hh)
  ·exact .inr hh
 ·rcases hh with hh | hh
  ·exact hl k hh
  ·exact ltl (h.elt k hh) hk.size
 ·rcases hh with hh | hh
  ·exact .inl (hs k hl' hh)
  ·exact .inr ⟨hl', hh.2⟩
 ·rcases hh with hh | hh
  ·exact hl k hh
  ·exact hh.1
 ·exact h.nk k he (hs k (h.elt k he) hk')
theorem Two.less {K K' E : Nat -> Prop} {w : World} {p r : Nat} {M : Dm} {R G : Nat -> List Nat} (h : Two K' E w p r M R G) (hs : ∀ k, K k -> K' k) : Two K E w p r M R G :=
 ⟨h.d.more (Kept.refl _ _) (fun k hk => .inl (by
   rcases hk with hk | hk
   ·exact .inl (hs k hk)
   ·exact .inr hk)) (fun k hk => by
   rcases hk with hk | hk
   ·exact h.lt k (hs k hk)
   ·exact h.elt k hk),
  h.r.more (Kept.refl _ _) (fun k hk => .inl (by
   rcases hk with hk | hk
   ·exact .inl (hs k hk)
   ·exact .inr hk)) (fun k hk => by
   rcases hk with hk | hk
   ·exact h.lt k (hs k hk)
   ·exact hk.1), fun k he hk => h.nk k he (hs k hk)⟩
structure Zjz (K E : Nat -> Prop) (w : World) (p r : Nat) (M : Dm) (R G : Nat -> List Nat) (o : Opx) (N : Nat) (K1 : Nat -> Prop) (A : OpA) (V : World) : Prop where
 blk : V.heap[N]? = some (.cells (opC o A).toArray 50 (0, 0))
 two : Two K1 E V p r M R G
 ats : Zag K1 V A.aa o.ats
 al : o.ats.length <= A.ac
 ints : Zbo K1 V A.la o.l
 il : o.l.length <= A.lc
 kk : ∀ k, K k -> K1 k
 kn : K1 N
 keep : Kept K w V
theorem zfv {ops : Array Oper} {o : Oper} {a : Act} {w : World} {Kn : Act -> World -> Prop} {Q : Exit -> Act -> World -> Prop} {E : Prop} (hgd : o.guard = none) (x : Operand) (ho : o.op = .load 50 x)
  (g : Nat) (hx : a.eval x = .pointer (some ⟨g, 0, none⟩)) (cs : Array Value) (hg : w.heap[g]? = some (.cells cs 50)) (hc : cs.size = 17) (h : Kn (a.put o.dst (.agg cs)) w) : if Region.wanted o (yielded ops a.tmps) = true then Oper.wp Tryz.prog o a w Kn Q else E := by
 have hw : Region.wanted o (yielded ops a.tmps) = true := by simp [Region.wanted, hgd]
 rw [if_pos hw]
 exact wp_load_row 50 x ho g hx 50 cs _ _ hg Tryz.underlying50 rfl (zcz cs hc) h
theorem zex {ops : Array Oper} {o : Oper} {a : Act} {w : World} {Kn : Act -> World -> Prop} {Q : Exit -> Act -> World -> Prop} {E : Prop} (hgd : o.guard = none) (x y : Operand) (ho : o.op = .store 50 x y)
  (g : Nat) (cells : Array Value) (hx : a.eval x = .pointer (some ⟨g, 0, none⟩)) (hy : a.eval y = .agg cells) (old : Array Value) (hg : w.heap[g]? = some (.cells old 50 (0, 0))) (hc : cells.size = 17) (hold : old.size = 17) (h1 : cells.all (·.oneCell') = true)
  (h : Kn (a.put o.dst undef) (w.setRow g cells)) : if Region.wanted o (yielded ops a.tmps) = true then Oper.wp Tryz.prog o a w Kn Q else E := by
 have hw : Region.wanted o (yielded ops a.tmps) = true := by simp [Region.wanted, hgd]
 rw [if_pos hw]
 exact wp_store_row 50 x y ho g cells hx hy 50 old hg (zcz cells hc) (by rw [hold, hc]) h1 h
theorem enter93 (args : Array Value) (X : World) : (callFunc 93 args).run Tryz.prog X = .ok (.enter 93 args) X := za0 Tryz.func93 (by kernel_rfl) (c := _) rfl args X
theorem enter92 (args : Array Value) (X : World) : (callFunc 92 args).run Tryz.prog X = .ok (.enter 92 args) X := za0 Tryz.func92 (by kernel_rfl) (c := _) rfl args X
theorem zii (o : Opx) (A : OpA) (n : Nat) (h1 : 1 <= n) (hn : n <= 1000000) (hl : o.l.length <= 1000000) (w : World) (hA : Zbo (fun k => k < w.heap.size) w A.la o.l) (hlc : o.l.length <= A.lc) :
  Calls Tryz.prog 92 #[opV o A, .int .i64 (n : Int)] w fun e w' => ∃ A' : OpA, e = .returned (opV (o.within n) A') /\ A'.aa = A.aa /\ A'.ac = A.ac /\ (o.within n).l.length <= A'.lc /\ (A'.la = A.la /\ (o.within n).l = o.l \/ Zbo (fun k => w.heap.size <= k /\ k < w'.heap.size) w' A'.la (o.within n).l) /\ Kept (fun k => k < w.heap.size) w w' := by
 cases hi : o.inn with
 | false =>
  have e : o.within n = o := if_pos hi
  refine (zkv o A n hi w).mono ?_
  rintro e1 w' ⟨rfl, hk⟩
  exact ⟨A, by rw [e], rfl, rfl, by rw [e]; exact hlc, .inl ⟨rfl, by rw [e]⟩, hk⟩
 | true =>
  have e : (o.within n).l = o.l.map fun z => (zf6 n z : Int) := by
   unfold Opx.within
   rw [if_neg (by rw [hi]; decide)]
  refine (zm4 o A n h1 hn hi hl w hA).mono ?_
  rintro e1 w' ⟨ao, c, rfl, hO, hk⟩
  refine ⟨_, rfl, rfl, rfl, by rw [e, List.length_map]; exact hO.2.1, .inr fun j hj => ?_, hk⟩
  rw [e, List.length_map] at hj
  obtain ⟨g, he, hc⟩ := hO.cell (j := j) (u := iv (zf6 n o.l[j])) (by rw [ivs, List.getElem?_map, List.getElem?_map, List.getElem?_eq_getElem hj]; rfl)
  have hb : zap ao g := by rw [he]; rfl
  refine ⟨g, 0, he, ⟨Nat.le_of_not_lt (Zac.out hO hb).1, (Zac.out hO hb).2⟩, ?_⟩
  rw [Nat.zero_add, hc]
  congr 2
  simp only [e, List.getElem_map]
theorem zha (o : Opx) (n : Nat) : (o.within n).k = o.k /\ (o.within n).inn = o.inn /\ (o.within n).nk = o.nk /\ (o.within n).nn = o.nn /\ (o.within n).nd = o.nd /\ (o.within n).ats = o.ats /\ (o.within n).s = o.s /\ (o.within n).t = o.t /\ (o.within n).f = o.f /\ (o.within n).l.length = o.l.length := by
 unfold Opx.within
 split
 ·exact ⟨rfl, rfl, rfl, rfl, rfl, rfl, rfl, rfl, rfl, rfl⟩
 ·exact ⟨rfl, rfl, rfl, rfl, rfl, rfl, rfl, rfl, rfl, by rw [List.length_map]⟩
end
end Go.Proofs.YtfeinppedejlpaaGreat
