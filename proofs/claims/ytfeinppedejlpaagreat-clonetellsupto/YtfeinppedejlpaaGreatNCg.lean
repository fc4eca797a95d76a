/-
  The chapter's example: a div with a text, copied; rows of a copy.
-/
import Derived.Test.YtfeinppedejlpaaGreatNCz
namespace Go.Proofs.YtfeinppedejlpaaGreat
open Go.RowKit
set_option linter.unusedVariables false
set_option maxRecDepth 100000
set_option maxHeartbeats 8000000
section
variable {M0 : Dm} {R0 G0 : Nat -> List Nat} {rk0 : Nat -> Nat} {cp : Sta -> Nat -> Sta × Nat} {nf : Nat -> Nat} (hI : Inv M0 R0 G0 rk0) {i : Nat} (hi : i < M0.n) (h5 : (M0.nd i).kind ≠ 5) (hL : Lev M0 R0 G0 rk0 i cp nf) {s : Sta} (ho : Old M0 R0 G0 s) (hs : s.ok)
include hI hi h5 hL ho hs
theorem zkf (hr : s.M.n + zbh M0 R0 nf i <= M0.limit) : (zbd cp s i).R s.M.n = [] /\ (clon M0 (M0.nd i) = false -> ((zbd cp s i).M.nd s.M.n).shadow = -1) /\ (clon M0 (M0.nd i) = true -> ∃ q r : Nat, (M0.nd i).shadow = (q : Int) /\ r = (s.mk1 (s.M.nd i)).M.n /\ ((zbd cp s i).M.nd s.M.n).shadow = (r : Int) /\ r < (zbd cp s i).M.n /\ ((zbd cp s i).M.nd r).fl = (M0.nd q).fl /\ ((zbd cp s i).M.nd r).host = (s.M.n : Int) /\ ((zbd cp s i).R r).length = (R0 q).length) := by
 have ei : s.M.nd i = M0.nd i := ho.nd i hi
 have hcl : clon s.M (s.M.nd i) = clon M0 (M0.nd i) := by
  rw [ei]; unfold clon
  by_cases c : (M0.nd i).shadow = -1
  ·simp [c]
  ·rcases hI.core.shad i hi with e | ⟨q, hq, e, -⟩
   ·exact absurd e c
   ·rw [e, Int.toNat_natCast, ho.nd q hq]
 have hl := zd9 (s := s) (x := s.M.nd i)
 cases hc : clon M0 (M0.nd i) with
 | false =>
  have e : zbd cp s i = s.mk1 (s.M.nd i) := by unfold zbd; rw [hcl, hc, if_neg (by decide)]
  rw [e]
  exact ⟨hl.2.1, fun _ => hl.2.2.1, fun h => by cases h⟩
 | true =>
  unfold zbh at hr
  rw [hc, if_pos rfl] at hr
  obtain ⟨q, hq, e, hrq, hm2⟩ := zj1 hI hi h5 ho hs hc
  rw [e, Int.toNat_natCast] at hr
  have e1 : (s.mk1 (s.M.nd i)).M.n = s.M.n + (1 + if (M0.nd i).content = -1 then 0 else 1) := by rw [zo1, ei]
  have hlt : s.M.n < (s.mk1 (s.M.nd i)).M.n := by omega
  obtain ⟨r1, r2, r3, r4, r5, r6, r7⟩ := zmv (s := s.mk1 (s.M.nd i)) (M0.nd q).fl hlt
  have hM0 : M0.n <= s.M.n := ho.n
  have e2 : zbd cp s i = copies cp (s.mk1 (s.M.nd i)).M.n (R0 q) ((s.mk1 (s.M.nd i)).rt s.M.n (M0.nd q).fl) := by
   unfold zbd; rw [hcl, hc, if_pos rfl, ei, e, Int.toNat_natCast, ho.r q hq (fun e => by cases e), ho.nd q hq]
  have hdk := zbn i hL (s.mk1 (s.M.nd i)).M.n (by omega) (R0 q) ((s.mk1 (s.M.nd i)).rt s.M.n (M0.nd q).fl) (hI.kidsOf hq (.inr hrq)) (ho.trans (hm2.keeps.low ho.n)) hm2.ok (by rw [r1]; omega) (by rw [r2]; exact zoz _ rfl) (by rw [r1]; omega)
  rw [e2]
  obtain ⟨r, hrE⟩ : ∃ r, r = (s.mk1 (s.M.nd i)).M.n := ⟨_, rfl⟩
  rw [<- hrE] at r1 r2 r5 hdk hlt ⊢
  refine ⟨?_, fun h => (by cases h), fun _ => ⟨q, r, e, rfl, ?_, ?_, ?_, ?_, ?_⟩⟩
  ·rw [hdk.keeps.r _ (by omega) (fun e => by injection e with e; omega), r7 _ (by omega)]; exact hl.2.1
  ·rw [hdk.keeps.nd _ (by omega), r3, <- hrE]
  ·rw [hdk.n]; omega
  ·rw [hdk.keeps.nd _ (by omega), r2]; rfl
  ·rw [hdk.keeps.nd _ (by omega), r2]
  ·rw [hdk.len, r5]; simp
theorem zmw (hr : s.M.n + zb8 M0 R0 nf i true <= M0.limit) : ((zdm cp s i true).R s.M.n).length = (R0 i).length := by
 have ei : s.M.nd i = M0.nd i := ho.nd i hi
 have hr' : s.M.n + (za8 M0 R0 nf i + needs nf (R0 i)) <= M0.limit := hr
 have hS0 : zbh M0 R0 nf i <= za8 M0 R0 nf i := by unfold za8; omega
 have hS := zlt hI hi h5 hL ho hs (by omega)
 have hC := zo7 hI hi h5 hL ho hs (by omega)
 have hrow := (zkf hI hi h5 hL ho hs (by omega)).1
 have hCr : (zbt cp s i).R s.M.n = [] := by
  unfold zbt
  by_cases c : (M0.nd i).content = -1
  ·rw [ei, if_pos c]; exact hrow
  ·obtain ⟨q, hq, e, h4, -, -, hrq, -⟩ := hI.content hi c
   have h2 := hS.two (by rw [ei]; exact c)
   have hn := hS.n
   have hM0 : M0.n <= s.M.n := ho.n
   unfold za8 at hr'
   rw [if_neg c, e, Int.toNat_natCast] at hr'
   have hdk := zbn i hL (s.M.n + 1) (by omega) (R0 q) (zbd cp s i) (hI.kidsOf hq (.inr hrq)) (ho.trans (hS.keeps.low ho.n)) hS.ok (by omega) (zop _ (hS.like.c4 (by rw [ei]; exact c))) (by omega)
   rw [ei, if_neg c, e, Int.toNat_natCast, ho.r q hq (fun e => by cases e), hdk.keeps.r _ (by omega) (fun e => by injection e with e; omega)]
   exact hrow
 show ((copies cp s.M.n (s.R i) (zbt cp s i)).R s.M.n).length = _
 rw [ho.r i hi (fun e => by cases e)]
 show ((copies cp s.M.n (R0 i) (zbt cp s i)).R s.M.n).length = _
 by_cases c : R0 i = []
 ·rw [c]; show ((zbt cp s i).R s.M.n).length = _; rw [hCr]
 ·have hn := hC.n
  have h1 := hC.one
  have hdk := zbn i hL s.M.n ho.n (R0 i) (zbt cp s i) (hI.kidsOf hi (.inl rfl)) (ho.trans (hC.keeps.low ho.n)) hC.ok (by omega) (by
   obtain ⟨k, hk⟩ := List.exists_mem_of_ne_nil _ c
   have hh := (hI.ex.kid i hi k hk).1
   unfold zbp at hh ⊢
   rw [hC.like.kind, hC.like.name, ei]; exact hh) (by omega)
  rw [hdk.len, hCr]; simp
end
structure Kd (s : Sta) : Prop where
 ok : s.ok
 lim : s.M.limit = 9
 n : 3 <= s.M.n
 le : s.M.n <= 9
 n1 : (s.M.nd 1).kind = 1 /\ (s.M.nd 1).shadow = -1 /\ (s.M.nd 1).content = -1
 n2 : (s.M.nd 2).kind = 2 /\ (s.M.nd 2).shadow = -1 /\ (s.M.nd 2).content = -1
 r1 : s.R 1 = [2]
 r2 : s.R 2 = []
theorem Kd.next {s s' : Sta} {x : Nd} {m : Nat} (h : Kd s) (k : Mid s x m s') (hl : s.M.n + m <= 9) : Kd s' := by
 have h3 := h.n
 refine ⟨k.ok, k.keeps.lim.trans h.lim, by have := k.n; omega, by have := k.n; omega, ?_, ?_, ?_, ?_⟩
 ·rw [k.keeps.nd 1 (by omega)]; exact h.n1
 ·rw [k.keeps.nd 2 (by omega)]; exact h.n2
 ·rw [k.keeps.r 1 (by omega) (fun e => by cases e)]; exact h.r1
 ·rw [k.keeps.r 2 (by omega) (fun e => by cases e)]; exact h.r2
theorem Kd.need {s : Sta} (h : Kd s) (f : Nat) (deep : Bool) : zba s.M s.R (f + 2) 1 deep = if deep = true then 2 else 1 := by
 have c1 : clon s.M (s.M.nd 1) = false := by unfold clon; rw [h.n1.2.1]; rfl
 have c2 : clon s.M (s.M.nd 2) = false := by unfold clon; rw [h.n2.2.1]; rfl
 have e2 : zba s.M s.R (f + 1) 2 true = 1 := by
  show za8 s.M s.R _ 2 + needs _ (s.R 2) = 1
  unfold za8 zbh
  rw [c2, h.n2.2.2, h.r2]; rfl
 cases deep with
 | false =>
  show zbh s.M s.R _ 1 = 1
  unfold zbh
  rw [c1, h.n1.2.2]; rfl
 | true =>
  show za8 s.M s.R _ 1 + needs _ (s.R 1) = 2
  unfold za8 zbh needs
  rw [c1, h.n1.2.2, h.r1]
  simp [e2]
theorem Kd.clone {K : Nat -> Prop} {w : World} {p : Nat} {s : Sta} (h : Kd s) (hX : DX K w p s.M) (deep : Bool) (m : Nat) (hm : (if deep = true then 2 else 1) = m) (hr : s.M.n + m <= 9) :
  Calls Tryz.prog 52 #[.pointer (some ⟨p, 0, none⟩), .int .i64 1, .bool deep] w fun e w' => e = .returned (.tuple #[.int .i64 (s.M.n : Int), .int .u16 0]) /\ (∃ s', Kd s' /\ DX K w' p s'.M /\ s'.M.n = s.M.n + m /\ (deep = true -> (s'.R s.M.n).length = 1)) /\ Kept K w w' := by
 obtain ⟨rk, hI⟩ := h.ok
 have h3 := h.n
 have hlim := h.lim
 have hnd := h.need (dn s.M.n rk 1) deep
 rw [hm] at hnd
 have hk5 : (s.M.nd 1).kind ≠ 5 := by rw [h.n1.1]; decide
 refine (zed hI (by omega) (by omega) (dn s.M.n rk 1 + 2) 1 (by omega) (by omega) deep w hX).mono ?_
 rintro e w' ⟨hk, hC⟩
 cases hC with
 | shadow a _ _ => exact absurd a hk5
 | full _ a _ _ => rw [hnd, hlim] at a; omega
 | made _ a he hd =>
  have hdone := ze8 hI (dn s.M.n rk 1 + 2) 1 (by omega) (by omega) hk5 s deep (Keeps.refl _ _ _) h.ok (by rw [hnd, hlim]; omega)
  rw [hnd] at hdone
  refine ⟨he, ⟨_, h.next hdone.mid (by omega), hd, hdone.mid.n, fun hdp => ?_⟩, hk⟩
  subst hdp
  have := zmw hI (i := 1) (by omega) hk5 (zmk hI (f := dn s.M.n rk 1 + 1) (by omega)) (Keeps.refl _ _ s) h.ok (by
   have : zb8 s.M s.R (fun k => zba s.M s.R (dn s.M.n rk 1 + 1) k true) 1 true = zba s.M s.R (dn s.M.n rk 1 + 2) 1 true := rfl
   rw [this, hnd, hlim]; omega)
  rw [h.r1] at this
  exact this
theorem Kd.full {K : Nat -> Prop} {w : World} {p : Nat} {s : Sta} (h : Kd s) (hX : DX K w p s.M) (hr : 9 < s.M.n + 2) :
  Calls Tryz.prog 52 #[.pointer (some ⟨p, 0, none⟩), .int .i64 1, .bool true] w fun e w' => e = .returned (.tuple #[.int .i64 0, .int .u16 3]) /\ Kept K w w' := by
 obtain ⟨rk, hI⟩ := h.ok
 have h3 := h.n
 have hlim := h.lim
 have hnd := h.need (dn s.M.n rk 1) true
 rw [if_pos rfl] at hnd
 have hk5 : (s.M.nd 1).kind ≠ 5 := by rw [h.n1.1]; decide
 refine (zed hI (by omega) (by have := h.le; omega) (dn s.M.n rk 1 + 2) 1 (by omega) (by omega) true w hX).mono ?_
 rintro e w' ⟨hk, hC⟩
 cases hC with
 | shadow a _ _ => exact absurd a hk5
 | full _ a he hd => exact ⟨he, hk⟩
 | made _ a he hd => rw [hnd, hlim] at a; omega
end Go.Proofs.YtfeinppedejlpaaGreat
