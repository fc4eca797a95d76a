/-
  The document's own Stable: does no text stand ahead. What stable.Same answers, whatever is compared.
-/
import Derived.Test.YtfeinppedejlpaaGreatVU1m
import Derived.Test.YtfeinppedejlpaaGreatVYg
namespace Go.Proofs.YtfeinppedejlpaaGreat
section
open Go.RowKit Go.Sort
set_option linter.unusedVariables false
set_option maxRecDepth 100000
set_option maxHeartbeats 8000000
def lnB (M : Dm) (l : List Nat) : Nat -> Bool
 | 0 => true
 | j + 1 => !decide ((M.nd (l.getD j 0)).kind = 2)
theorem zm0 {w0 : World} {r : Nat} {M : Dm} {R : Nat -> List Nat} {g nc : Nat} (hE : RE w0 r M R g nc) (hn : M.n <= 100000) {k u j : Nat} (hk : k < M.n) (hu : u < M.n) (hup : (M.pl k).up = (u : Int)) (hlt : ∀ x ∈ R u, x < M.n) (hnd : (R u).Nodup) (hj : j < (R u).length) (hjk : (R u)[j] = k) (hl : (R u).length <= 100000) (X : World) (hX : Kept (fun k => k < w0.heap.size) w0 X) :
  Calls Tryz.prog 221 #[.pointer (some ⟨r, 0, none⟩), .int .i64 (k : Int)] X fun e w' => e = .returned (.bool (lnB M (R u) j)) /\ Kept (fun k => k < X.heap.size) X w' := by
 obtain ⟨l, hl0⟩ : ∃ l, R u = l := ⟨_, rfl⟩
 obtain ⟨aa, ac, ka, kc, hA⟩ := hE k hk
 obtain ⟨aa', ac', ka', kc', hA'⟩ := hE u hu
 have hat := hA X hX
 have hat' := hA' X hX
 have c1 := hat.c1
 have c4 : X.cell? ⟨g, k * 14 + 4, none⟩ = some (.int .i64 (u : Int)) := by rw [<- hup]; exact hat.c 4 _ rfl
 have c5 : X.cell? ⟨g, u * 14 + 5, none⟩ = some (.slice ka' l.length kc') := by rw [<- hl0]; exact hat'.c 5 _ rfl
 have HQ : Hid (∀ Y, Kept (fun k => k < X.heap.size) X Y -> Zae (fun q => q < w0.heap.size) Y ka' l /\ Y.cell? ⟨r, 1, none⟩ = some (.slice (some ⟨g, 0, none⟩) M.n nc) /\ ∀ x, x < M.n -> Y.cell? ⟨g, x * 14, none⟩ = some (.int .u8 ((M.nd x).kind : Int))) := fun Y hY => by
  have hXY := kt hX hY
  refine ⟨by rw [<- hl0]; exact (hA' Y hXY).kid, (hA' Y hXY).c1, fun x hx => ?_⟩
  obtain ⟨aa, ac, ka, kc, hA⟩ := hE x hx
  exact (hA Y hXY).c 0 _ rfl
 rw [hl0] at hlt hnd hl hj ⊢
 have HJK : Hid (l[j] = k) := by
  have : (R u)[j] = l[j] := by simp [hl0]
  rw [<- this]; exact hjk
 have HND : Hid l.Nodup := hnd
 have HLT : Hid (∀ x ∈ l, x < M.n) := hlt
 obtain ⟨mn, hmn⟩ : ∃ q, M.n = q := ⟨_, rfl⟩
 have HMN : Hid (M.n = mn) := hmn
 obtain ⟨ln, hln⟩ : ∃ q, l.length = q := ⟨_, rfl⟩
 have HLN : Hid (l.length = ln) := hln
 rw [hmn] at c1 hk hu hn
 rw [hln] at c5 hl
 have hj2 : j < ln := by rw [<- hln]; exact hj
 clear hE hA hA' hat hat' hup hlt hnd hl0 hjk hmn hln
 go_enter Tryz.func221, Tryz.ntmps221
 go_wp2_with fail
 go_quiet (fail)
 go_wp2_with fail
 go_loopg [6] ln (fun gm vi wr => ∃ i : Nat, gm = ln - i /\ i + 1 <= ln /\ vi = .int .i64 ((i : Int) + 1) /\ (0 < j -> j < i + 1 -> lnB M l j = true) /\ Kept (fun k => k < X.heap.size) X wr)
 case atStart => exact ⟨0, rfl, by omega, rfl, fun h1 h2 => by omega, (Kept.refl _ X).drewN nq⟩
 case round =>
  obtain ⟨i, hg, hi, rfl, ha, hKX⟩ := hrel
  have HKX : Hid (Kept (fun k => k < X.heap.size) X wr) := hKX
  obtain ⟨hint, c1r, hk0⟩ := HQ.out wr hKX
  have HA : Hid (0 < j -> j < i + 1 -> lnB M l j = true) := ha
  clear ha
  by_cases hlt : i + 1 < ln
  ·have hil : i + 1 < l.length := by rw [HLN.out]; exact hlt
   have hil0 : i < l.length := by omega
   obtain ⟨qg, qo, hka, -, d1⟩ := hint (i + 1) hil
   obtain ⟨qg', qo', hka', -, d0⟩ := hint i hil0
   rw [hka] at hka'
   injection hka' with hka'
   injection hka' with e1 e2
   subst e1
   subst e2
   subst hka
   obtain ⟨x, hx⟩ : ∃ x, l[i + 1] = x := ⟨_, rfl⟩
   obtain ⟨y, hy⟩ : ∃ y, l[i] = y := ⟨_, rfl⟩
   have hym := HLT.out y (by rw [<- hy]; exact List.getElem_mem hil0)
   have cy := hk0 y hym
   rw [HMN.out] at c1r
   rw [HMN.out] at hym
   rw [hx] at d1
   rw [hy] at d0
   have d1' : wr.cell? ⟨qg, qo + (i + 1), none⟩ = some (.int .i64 (x : Int)) := d1
   have d0' : wr.cell? ⟨qg, qo + i, none⟩ = some (.int .i64 (y : Int)) := d0
   obtain ⟨yk, hyk⟩ : ∃ q, (M.nd y).kind = q := ⟨_, rfl⟩
   rw [hyk] at cy
   clear d1 d0 hint hk0 hKX
   by_cases hxk : x = k
   ·have hji : j = i + 1 := by
     refine (List.getElem_inj (h₀ := hj) (h₁ := hil) HND.out).1 ?_
     rw [HJK.out, hx, hxk]
    have hgd : l.getD i 0 = y := by rw [List.getD_eq_getElem?_getD, List.getElem?_eq_getElem hil0, Option.getD_some, hy]
    have HR : Hid (lnB M l j = !decide (yk = 2)) := by
     show lnB M l j = _
     rw [hji]
     show (!decide ((M.nd (l.getD i 0)).kind = 2)) = _
     rw [hgd, hyk]
    have e1 : ((x : Int) == (k : Int)) = true := by rw [hxk, beq_self_eq_true]
    clear hx hy hyk hxk hgd hil hil0 HA
    by_cases h2 : yk = 2
    ·subst h2
     clear hji
     go_wp2_with fail
     go_quiet (fail)
     go_wp2
     go_ret
     exact ⟨by rw [HR.out]; rfl, HKX.out.drewN nq⟩
    ·have e2 : ((yk : Int) == 2) = false := by rw [beq_eq_false_iff_ne]; omega
     have HR2 : Hid (lnB M l j = true) := by
      show lnB M l j = true
      rw [HR.out, decide_eq_false h2]; rfl
     have HJI : Hid (j = i + 1) := hji
     clear hji
     go_wp2_with fail
     go_quiet (fail)
     go_wp2
     go_roundg (ln - (i + 1))
     case rel => exact ⟨i + 1, rfl, by omega, by go_num, fun _ _ => HR2.out, HKX.out.drewN nq⟩
     case measure => omega
   ·have e1 : ((x : Int) == (k : Int)) = false := by rw [beq_eq_false_iff_ne]; omega
    have HNJ : Hid (j ≠ i + 1) := fun e => by
     subst e
     exact hxk (hx.symm.trans HJK.out)
    clear hx hy hyk hil hil0
    go_wp2_with fail
    go_quiet (fail)
    go_wp2
    go_roundg (ln - (i + 1))
    case rel => exact ⟨i + 1, rfl, by omega, by go_num, fun h1 h2 => HA.out h1 (by have := HNJ.out; omega), HKX.out.drewN nq⟩
    case measure => omega
  ·obtain rfl : ln = i + 1 := by omega
   have HB : Hid (lnB M l j = true) := by
    rcases Nat.eq_zero_or_pos j with h | h
    ·subst h; exact (show Hid _ from rfl)
    ·exact (show Hid _ from HA.out h hj2)
   clear hint hk0 hKX c1r
   go_wp2
   go_ret
   exact ⟨by rw [HB.out]; rfl, HKX.out⟩
end
section
open Go.RowKit Go.Sort
set_option linter.unusedVariables false
set_option maxRecDepth 100000
set_option maxHeartbeats 8000000
section
variable {w0 : World} {p p' : Nat} {M M' : Dm} {R R' : Nat -> List Nat} {f : Nat}
theorem zl4 (rd : Rd2 w0 p p' M M' R R') (a b : Nat) (ha : a < M.n) (hb : b < M'.n) (hA : Zpq w0 p p' M M' R R' f a b) (hS : Zrd w0 p p' (M.nd a).shadow (M'.nd b).shadow (zhb (alk M M' R R' f) M M' (M.nd a).shadow (M'.nd b).shadow)) (hC : Zrd w0 p p' (M.nd a).content (M'.nd b).content (zhb (alk M M' R R' f) M M' (M.nd a).content (M'.nd b).content)) (h50 : (M.nd a).attrs.length <= 100000 /\ (M'.nd b).attrs.length <= 100000) (X : World) (hX : Kept (fun k => k < w0.heap.size) w0 X) (N : Nat) (hN : X.heap[N]? = some (.cells #[.pointer (some ⟨p, 0, none⟩), .pointer (some ⟨p', 0, none⟩)] 156 (0, 0))) :
  Calls Tryz.prog 206 #[.int .i64 (a : Int), .int .i64 (b : Int), .pointer (some ⟨N, 0, none⟩)] X fun e w' => e = .returned (.bool (zcu (alk M M' R R' f) M M' a b)) /\ Kept (fun k => k < X.heap.size) X w' := by
 unfold zcu
 exact zl5 rd a b ha hb hA _ _ hS hC h50 X hX N hN
end
theorem zrc (P : Nat -> Nat -> Bool) (l m : List Nat) (n1 n2 : Nat) (hl : l.length = n1) (hm : m.length = n2) (h1 : n1 <= 1000000) (h2 : n2 <= 1000000) (la lb : Option Addr) (c1 c2 N : Nat) (X : World) (il : Zae (fun k => k < X.heap.size) X la l) (im : Zae (fun k => k < X.heap.size) X lb m)
  (hc : ∀ a ∈ l, ∀ b ∈ m, ∀ Y, Kept (fun k => k < X.heap.size) X Y -> Calls Tryz.prog 206 #[.int .i64 (a : Int), .int .i64 (b : Int), .pointer (some ⟨N, 0, none⟩)] Y fun e w' => e = .returned (.bool (P a b)) /\ Kept (fun k => k < Y.heap.size) Y w') :
  Calls Tryz.prog 205 #[.slice la n1 c1, .slice lb n2 c2, .func (.func 206) #[] #[.pointer (some ⟨N, 0, none⟩)]] X fun e w' => e = .returned (.bool (all2 P l m)) /\ Kept (fun k => k < X.heap.size) X w' := by
 have HL : Hid (l.length = n1) := hl
 have HM : Hid (m.length = n2) := hm
 have IL : Hid (Zae (fun k => k < X.heap.size) X la l) := il
 have IM : Hid (Zae (fun k => k < X.heap.size) X lb m) := im
 have HC : Hid _ := hc
 obtain ⟨res, hres⟩ : ∃ b, all2 P l m = b := ⟨_, rfl⟩
 have HR : Hid (all2 P l m = res) := hres
 rw [hres]
 clear hl hm il im hc hres
 by_cases hn : n1 = n2
 ·subst hn
  go_enter Tryz.func205, Tryz.ntmps205
  go_wp2_with fail
  go_loopg [17] n1 (fun g v17 wr => ∃ j : Nat, g = n1 - j /\ j <= n1 /\ v17 = .int .i64 (j : Int) /\ res = all2 P (l.drop j) (m.drop j) /\ Kept (fun k => k < X.heap.size) X wr)
  case atStart => exact ⟨0, rfl, Nat.zero_le _, rfl, HR.out.symm, Kept.refl _ _⟩
  case round =>
   obtain ⟨j, hg, hj, rfl, he, hK⟩ := hrel
   have HK : Hid (Kept (fun k => k < X.heap.size) X wr) := hK
   by_cases hlt : j < n1
   ·have hjl : j < l.length := by rw [HL.out]; exact hlt
    have hjm : j < m.length := by rw [HM.out]; exact hlt
    obtain ⟨g1, o1, rfl, hg1, d1⟩ := IL.out j hjl
    obtain ⟨g2, o2, rfl, hg2, d2⟩ := IM.out j hjm
    have hd1 : l.drop j = l[j] :: l.drop (j + 1) := List.drop_eq_getElem_cons hjl
    have hd2 : m.drop j = m[j] :: m.drop (j + 1) := List.drop_eq_getElem_cons hjm
    obtain ⟨a, ha⟩ : ∃ a, l[j] = a := ⟨_, rfl⟩
    obtain ⟨b, hb⟩ : ∃ a, m[j] = a := ⟨_, rfl⟩
    rw [ha] at hd1 d1
    rw [hb] at hd2 d2
    have e1 : wr.cell? ⟨g1, o1 + j, none⟩ = some (.int .i64 (a : Int)) := (hK.cell (p := ⟨g1, o1 + j, none⟩) hg1).trans d1
    have e2 : wr.cell? ⟨g2, o2 + j, none⟩ = some (.int .i64 (b : Int)) := (hK.cell (p := ⟨g2, o2 + j, none⟩) hg2).trans d2
    have rc := HC.out a (by rw [<- ha]; exact List.getElem_mem hjl) b (by rw [<- hb]; exact List.getElem_mem hjm) wr hK
    have he' : res = (P a b && all2 P (l.drop (j + 1)) (m.drop (j + 1))) := by rw [he, hd1, hd2]; rfl
    obtain ⟨q, hq⟩ : ∃ q, P a b = q := ⟨_, rfl⟩
    rw [hq] at rc he'
    have HE : Hid (res = (q && all2 P (l.drop (j + 1)) (m.drop (j + 1)))) := he'
    clear he he' hd1 hd2 d1 d2 hg1 hg2 ha hb hq hK hjl hjm
    go_wp2_with fail
    refine rc.mono ?_
    rintro e w1 ⟨rfl, hK1⟩
    have HK1 : Hid (Kept (fun k => k < X.heap.size) X w1) := kt HK.out hK1
    clear rc hK1 e1 e2
    cases q with
    | false =>
     have HF : Hid (res = false) := HE.out
     go_wp2
     go_ret
     exact ⟨congrArg (fun b => Ending.returned (Value.bool b)) HF.out.symm, HK1.out⟩
    | true =>
     have HT : Hid (res = all2 P (l.drop (j + 1)) (m.drop (j + 1))) := HE.out
     go_wp2
     go_roundg (n1 - (j + 1))
     case rel => exact ⟨j + 1, rfl, by omega, by go_num, HT.out, HK1.out⟩
     case measure => omega
   ·obtain rfl : j = n1 := by omega
    have HT : Hid (res = true) := by
     show res = true
     rw [he, List.drop_eq_nil_of_le (by rw [HL.out]; exact Nat.le_refl _), List.drop_eq_nil_of_le (by rw [HM.out]; exact Nat.le_refl _)]
     rfl
    clear he hK
    go_wp2
    go_ret
    exact ⟨congrArg (fun b => Ending.returned (Value.bool b)) HT.out.symm, HK.out⟩
 ·have e1 : ((n1 : Int) != (n2 : Int)) = true := by simp; omega
  have HF : Hid (res = false) := by
   show res = false
   rw [<- HR.out]
   exact zgz (by rw [HL.out, HM.out]; exact hn)
  clear hn
  go_enter Tryz.func205, Tryz.ntmps205
  go_wp2
  go_ret
  exact ⟨congrArg (fun b => Ending.returned (Value.bool b)) HF.out.symm, Kept.refl _ _⟩
end
end Go.Proofs.YtfeinppedejlpaaGreat
