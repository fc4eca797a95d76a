/-
  What stable.Same answers, whatever is compared.
-/
import Derived.Test.YtikaheenjhdpmaaYg
namespace Go.Proofs.Ytikaheenjhdpmaa
open Go.RowKit Go.Sort
set_option linter.unusedVariables false
set_option maxRecDepth 100000
set_option maxHeartbeats 8000000
section
variable {w0 : World} {p p' : Nat} {M M' : Dm} {R R' : Nat → List Nat} {f : Nat}
theorem alike1_any (rd : Rd2 w0 p p' M M' R R') (a b : Nat) (ha : a < M.n) (hb : b < M'.n) (hA : AlkC w0 p p' M M' R R' f a b) (hS : BesC w0 p p' (M.nd a).shadow (M'.nd b).shadow (besW (alk M M' R R' f) M M' (M.nd a).shadow (M'.nd b).shadow)) (hC : BesC w0 p p' (M.nd a).content (M'.nd b).content (besW (alk M M' R R' f) M M' (M.nd a).content (M'.nd b).content)) (h50 : (M.nd a).attrs.length ≤ 100000 ∧ (M'.nd b).attrs.length ≤ 100000) (X : World) (hX : Kept (fun k => k < w0.heap.size) w0 X) (N : Nat) (hN : X.heap[N]? = some (.cells #[.pointer (some ⟨p, 0, none⟩), .pointer (some ⟨p', 0, none⟩)] 72 (0, 0))) :
    Calls Try.prog 47 #[.int .i64 (a : Int), .int .i64 (b : Int), .pointer (some ⟨N, 0, none⟩)] X fun e w' => e = .returned (.bool (pairW (alk M M' R R' f) M M' a b)) ∧ Kept (fun k => k < X.heap.size) X w' := by
  unfold pairW
  cases h0 : faceB (M.nd a) (M'.nd b) with
  | false => exact alike1_F rd a b ha hb hA _ _ hS hC h50 h0 X hX N hN
  | true =>
  cases h1 : atrsB (M.nd a).attrs (M'.nd b).attrs with
  | false => exact alike1_A rd a b ha hb hA _ _ hS hC h50 h0 h1 X hX N hN
  | true =>
  cases h2 : besW (alk M M' R R' f) M M' (M.nd a).shadow (M'.nd b).shadow with
  | false => exact alike1_S rd a b ha hb hA _ _ hS hC h50 h0 h1 h2 X hX N hN
  | true =>
  cases h3 : besW (alk M M' R R' f) M M' (M.nd a).content (M'.nd b).content with
  | false => exact alike1_C rd a b ha hb hA _ _ hS hC h50 h0 h1 h2 h3 X hX N hN
  | true =>
  cases h4 : alk M M' R R' f a b with
  | false => exact alike1_K rd a b ha hb hA _ _ hS hC h50 h0 h1 h2 h3 h4 X hX N hN
  | true => exact alike1_T rd a b ha hb hA _ _ hS hC h50 h0 h1 h2 h3 h4 X hX N hN
end
/-- slices.EqualFunc with alike's closure. -/
theorem eqf_any (P : Nat → Nat → Bool) (l m : List Nat) (n1 n2 : Nat) (hl : l.length = n1) (hm : m.length = n2) (h1 : n1 ≤ 1000000) (h2 : n2 ≤ 1000000) (la lb : Option Addr) (c1 c2 N : Nat) (X : World) (il : IntsAt (fun k => k < X.heap.size) X la l) (im : IntsAt (fun k => k < X.heap.size) X lb m)
    (hc : ∀ a ∈ l, ∀ b ∈ m, ∀ Y, Kept (fun k => k < X.heap.size) X Y → Calls Try.prog 47 #[.int .i64 (a : Int), .int .i64 (b : Int), .pointer (some ⟨N, 0, none⟩)] Y fun e w' => e = .returned (.bool (P a b)) ∧ Kept (fun k => k < Y.heap.size) Y w') :
    Calls Try.prog 46 #[.slice la n1 c1, .slice lb n2 c2, .func (.func 47) #[] #[.pointer (some ⟨N, 0, none⟩)]] X fun e w' => e = .returned (.bool (all2 P l m)) ∧ Kept (fun k => k < X.heap.size) X w' := by
  have HL : Hid (l.length = n1) := hl
  have HM : Hid (m.length = n2) := hm
  have IL : Hid (IntsAt (fun k => k < X.heap.size) X la l) := il
  have IM : Hid (IntsAt (fun k => k < X.heap.size) X lb m) := im
  have HC : Hid _ := hc
  obtain ⟨res, hres⟩ : ∃ b, all2 P l m = b := ⟨_, rfl⟩
  have HR : Hid (all2 P l m = res) := hres
  rw [hres]
  clear hl hm il im hc hres
  by_cases hn : n1 = n2
  · subst hn
    go_enter Try.func46, Try.ntmps46
    go_wp2_with fail
    go_loopg [17] n1 (fun g v17 wr => ∃ j : Nat, g = n1 - j ∧ j ≤ n1 ∧ v17 = .int .i64 (j : Int) ∧ res = all2 P (l.drop j) (m.drop j) ∧ Kept (fun k => k < X.heap.size) X wr)
    case atStart => exact ⟨0, rfl, Nat.zero_le _, rfl, HR.out.symm, Kept.refl _ _⟩
    case round =>
      obtain ⟨j, hg, hj, rfl, he, hK⟩ := hrel
      have HK : Hid (Kept (fun k => k < X.heap.size) X wr) := hK
      by_cases hlt : j < n1
      · have hjl : j < l.length := by rw [HL.out]; exact hlt
        have hjm : j < m.length := by rw [HM.out]; exact hlt
        obtain ⟨g1, o1, rfl, hg1, d1⟩ := IL.out j hjl
        obtain ⟨g2, o2, rfl, hg2, d2⟩ := IM.out j hjm
        have hd1 : l.drop j = l[j] :: l.drop (j + 1) := List.drop_eq_getElem_cons hjl
        have hd2 : m.drop j = m[j] :: m.drop (j + 1) := List.drop_eq_getElem_cons hjm
        obtain ⟨a, ha⟩ : ∃ a, l[j] = a := ⟨_, rfl⟩
        obtain ⟨b, hb⟩ : ∃ a, m[j] = a := ⟨_, rfl⟩
        rw [ha] at hd1 d1
        rw [hb] at hd2 d2
        have e1 : wr.cell? ⟨g1, o1 + j, none⟩ = some (.int .i64 (a : Int)) := (hK.cell (p := ⟨g1, o1 + j, none⟩) hg1).trans d1
        have e2 : wr.cell? ⟨g2, o2 + j, none⟩ = some (.int .i64 (b : Int)) := (hK.cell (p := ⟨g2, o2 + j, none⟩) hg2).trans d2
        have rc := HC.out a (by rw [← ha]; exact List.getElem_mem hjl) b (by rw [← hb]; exact List.getElem_mem hjm) wr hK
        have he' : res = (P a b && all2 P (l.drop (j + 1)) (m.drop (j + 1))) := by rw [he, hd1, hd2]; rfl
        obtain ⟨q, hq⟩ : ∃ q, P a b = q := ⟨_, rfl⟩
        rw [hq] at rc he'
        have HE : Hid (res = (q && all2 P (l.drop (j + 1)) (m.drop (j + 1)))) := he'
        clear he he' hd1 hd2 d1 d2 hg1 hg2 ha hb hq hK hjl hjm
        go_wp2_with fail
        refine rc.mono ?_
        rintro e w1 ⟨rfl, hK1⟩
        have HK1 : Hid (Kept (fun k => k < X.heap.size) X w1) := HK.out.trans (hK1.mono fun k h => Nat.lt_of_lt_of_le h HK.out.size)
        clear rc hK1 e1 e2
        cases q with
        | false =>
          have HF : Hid (res = false) := HE.out
          go_wp2
          go_ret
          exact ⟨congrArg (fun b => Ending.returned (Value.bool b)) HF.out.symm, HK1.out⟩
        | true =>
          have HT : Hid (res = all2 P (l.drop (j + 1)) (m.drop (j + 1))) := HE.out
          go_wp2
          go_roundg (n1 - (j + 1))
          case rel => exact ⟨j + 1, rfl, by omega, by go_num, HT.out, HK1.out⟩
          case measure => omega
      · obtain rfl : j = n1 := by omega
        have HT : Hid (res = true) := by
          show res = true
          rw [he, List.drop_eq_nil_of_le (by rw [HL.out]; exact Nat.le_refl _), List.drop_eq_nil_of_le (by rw [HM.out]; exact Nat.le_refl _)]
          rfl
        clear he hK
        go_wp2
        go_ret
        exact ⟨congrArg (fun b => Ending.returned (Value.bool b)) HT.out.symm, HK.out⟩
  · have e1 : ((n1 : Int) != (n2 : Int)) = true := by simp; omega
    have HF : Hid (res = false) := by
      show res = false
      rw [← HR.out]
      exact all2_len (by rw [HL.out, HM.out]; exact hn)
    clear hn
    go_enter Try.func46, Try.ntmps46
    go_wp2
    go_ret
    exact ⟨congrArg (fun b => Ending.returned (Value.bool b)) HF.out.symm, Kept.refl _ _⟩
end Go.Proofs.Ytikaheenjhdpmaa
