/-
 Set and Drop: both documents' tests are the same one; what the program's refuse.; The program's Give, whole: what it refuses; a slot that is given to itself.; Each call does the same to both documents: Root, Give, Make.; What is told of a node, laid into a variable; how often a node stands in rows; 
-/
import Derived.Test.YtljnjdckhkglfaaP15
import Derived.Test.YtljnjdckhkglfaaP13
import Derived.Test.YtljnjdckhkglfaaP12
import Derived.Test.YtljnjdckhkglfaaP14
import Derived.Test.YtljnjdckhkglfaaRows
import Derived.Test.YtljnjdckhkglfaaP08
import Derived.Deep.LoopGhost
import Derived.Deep.QuietTactic
import Derived.BigQuiet
import Derived.WalkKit
import Derived.ProofKit
import Derived.OpenShut
import Derived.ShutString
import Derived.ChangeOld
import Derived.Below
import Derived.SizedLaws
import Derived.JoinedCond
import Derived.Deep.Slices
namespace Go.Proofs.Ytljnjdckhkglfaa
set_option linter.unusedVariables false
set_option maxRecDepth 100000
set_option maxHeartbeats 8000000
section
open Go.RowKit
theorem allW_setk : ∀ (l : List Atr) (L : List (List UInt8)) (k : Nat) (h : k < l.length) (a : Atr), l[k].name = a.name -> allW L l = true -> allW L (l.set k a) = writP a
 | x :: r, L, 0, h, a, he, hw => by
  have he : x.name = a.name := he
  simp only [allW, Bool.and_eq_true] at hw
  simp only [List.set_cons_zero, allW]
  rw [<- he, hw.2, hw.1.2]
  simp
 | x :: r, L, k + 1, h, a, he, hw => by
  simp only [allW, Bool.and_eq_true] at hw
  simp only [List.set_cons_succ, allW]
  rw [allW_setk r _ k (by simpa using h) a he hw.2, hw.1.1, hw.1.2]
  simp
theorem allW_snoc : ∀ (l : List Atr) (L : List (List UInt8)) (a : Atr), (∀ x ∈ l, x.name ≠ a.name) -> ¬ a.name ∈ L -> allW L l = true -> allW L (l ++ [a]) = writP a
 | [], L, a, hn, hL, hw => by
  simp only [List.nil_append, allW]
  simp [hL]
 | x :: r, L, a, hn, hL, hw => by
  simp only [allW, Bool.and_eq_true] at hw
  simp only [List.cons_append, allW]
  rw [allW_snoc r _ a (fun y hy => hn y (List.mem_cons_of_mem _ hy)) (fun hm => by
   rcases List.mem_cons.1 hm with hm | hm
   ·exact hn x (List.mem_cons_self ..) hm.symm
   ·exact hL hm) hw.2, hw.1.1, hw.1.2]
  simp
theorem soundA_set {l : List Atr} (h : soundA l = true) (a : Atr) {z : Int} (hz : FindA l a.name z) : soundA (setA l a) = (writP a && !(decide (z = -1) && decide (50 <= l.length))) := by
 have hl := soundA_few h
 have hw : allW [] l = true := by
  unfold soundA at h
  simp only [Bool.and_eq_true] at h
  exact h.2
 cases hz with
 | no hn =>
  rw [setA_no l a hn]
  unfold soundA
  rw [allW_snoc l [] a hn (by simp) hw, List.length_append, List.length_singleton]
  by_cases c : 50 <= l.length
  ·rw [decide_eq_false (by omega), decide_eq_true c]; simp
  ·rw [decide_eq_true (by omega), decide_eq_false c]; simp
 | @yes k hk e ha =>
  rw [setA_at l a k hk e ha]
  unfold soundA
  rw [allW_setk l [] k hk a e hw, List.length_set, decide_eq_true hl, decide_eq_false (show ¬ ((k : Int) = -1) by omega)]
  simp
theorem soundL_el {nm : List UInt8} (hv : validP nm = true) (l : List Atr) : soundL [⟨0, 1, nm, l, []⟩] = soundA l := by
 unfold soundL
 simp [soundP, kindP, hv]
end
section
open Go.RowKit
def Tells (w : World) (v : Value) (b : Int -> Bool) (l : List Int) : Prop :=
 ∃ f caps, v = .func (.func f) #[] caps /\ (∀ args X, (callFunc f args).run Try.prog X = .ok (.enter f args) X) /\ ∀ x ∈ l, Calls Try.prog f (#[.int .i64 x] ++ caps) w fun e Y => e = .returned (.bool (b x)) /\ Y = w
inductive Zany (l : List Int) (b : Int -> Bool) : Int -> Prop
 | yes (k : Nat) : l.any b = true -> Zany l b (k : Int)
 | no : l.any b = false -> Zany l b (-1)
theorem indexF_any (l : List Int) (n : Nat) (hln : l.length = n) (hn : n <= 1000000) (a : Option Addr) (cap : Nat) (v : Value) (b : Int -> Bool) (w : World) (hr : IntsZ (fun k => k < w.heap.size) w a l) (hv : Tells w v b l) :
  Calls Try.prog 103 #[.slice a n cap, v] w fun e w' => ∃ z, Zany l b z /\ e = .returned (.int .i64 z) /\ w' = w := by
 obtain ⟨f, caps, rfl, he, hc⟩ := hv
 have HR : Hid (IntsZ (fun k => k < w.heap.size) w a l) := hr
 have HC : Hid (∀ x ∈ l, Calls Try.prog f (#[.int .i64 x] ++ caps) w fun e Y => e = .returned (.bool (b x)) /\ Y = w) := hc
 have HL : Hid (l.length = n) := hln
 clear hr hc hln
 go_enter Try.func103, Try.ntmps103
 go_upto_region 2 with fail
 go_loopg [8] n (fun gh s wr => ∃ j : Nat, gh = n - j /\ j <= n /\ s = .int .i64 (j : Int) /\ (l.take j).any b = false /\ wr = w)
 case atStart => exact ⟨0, rfl, Nat.zero_le _, rfl, rfl, rfl⟩
 case round =>
  obtain ⟨j, hgj, hj, rfl, hno, rfl⟩ := hrel
  have HNO : Hid ((l.take j).any b = false) := hno
  clear hno
  by_cases hlt : j < n
  ·have hl : j < l.length := by rw [HL.out]; exact hlt
   obtain ⟨g, o, rfl, -, d⟩ := HR.out j hl
   have r := HC.out l[j] (List.getElem_mem hl)
   have htk : l.take (j + 1) = l.take j ++ [l[j]] := List.take_succ_eq_append_getElem hl
   have hmem := List.getElem_mem hl
   obtain ⟨q, hq⟩ : ∃ q, l[j] = q := ⟨_, rfl⟩
   rw [hq] at d r htk hmem
   obtain ⟨t, ht⟩ : ∃ t, b q = t := ⟨_, rfl⟩
   rw [ht] at r
   have HT : Hid (b q = t) := ht
   have HMEM : Hid (q ∈ l) := hmem
   have HTK : Hid (l.take (j + 1) = l.take j ++ [q]) := htk
   have HRR : Hid (Calls Try.prog f (#[.int .i64 q] ++ caps) wr fun e Y => e = .returned (.bool t) /\ Y = wr) := r
   clear hq r htk hmem ht
   cases t with
   | false =>
    go_wp2_with fail
    refine HRR.out.mono ?_
    rintro e w2 ⟨rfl, hw2⟩
    replace hw2 := hw2.symm
    subst hw2
    clear HRR d
    go_wp2
    go_roundg (n - (j + 1))
    case rel => exact ⟨j + 1, rfl, by omega, by go_num, by rw [HTK.out, List.any_append, HNO.out]; simp [HT.out], rfl⟩
    case measure => omega
   | true =>
    go_wp2_with fail
    refine HRR.out.mono ?_
    rintro e w2 ⟨rfl, hw2⟩
    replace hw2 := hw2.symm
    subst hw2
    clear HRR d
    go_wp2
    go_ret
    exact ⟨_, .yes j (List.any_eq_true.2 ⟨q, HMEM.out, HT.out⟩), rfl, rfl⟩
  ·have hjn : j = n := by omega
   subst hjn
   clear he
   go_wp2
   go_ret
   exact ⟨_, .no (by have := HNO.out; rw [List.take_of_length_le (by rw [HL.out]; exact Nat.le_refl _)] at this; exact this), rfl, rfl⟩
theorem contains_any (l : List Int) (n : Nat) (hln : l.length = n) (hn : n <= 1000000) (a : Option Addr) (cap : Nat) (v : Value) (b : Int -> Bool) (w : World) (hr : IntsZ (fun k => k < w.heap.size) w a l) (hv : Tells w v b l) :
  Calls Try.prog 81 #[.slice a n cap, v] w fun e w' => e = .returned (.bool (l.any b)) /\ w' = w := by
 have r := indexF_any l n hln hn a cap v b w hr hv
 obtain ⟨q, hq⟩ : ∃ q, l.any b = q := ⟨_, rfl⟩
 rw [hq]
 have HR : Hid (Calls Try.prog 103 #[.slice a n cap, v] w fun e w' => ∃ z : Int, decide (z >= 0) = q /\ e = .returned (.int .i64 z) /\ w' = w) := r.mono (by
  rintro e w' ⟨z, hz, he, hw⟩
  refine ⟨z, ?_, he, hw⟩
  rw [<- hq]
  cases hz with
  | yes k h => rw [h]; exact decide_eq_true (by omega)
  | no h => rw [h]; rfl)
 clear hr hv hln r hq
 go_enter Try.func81, Try.ntmps81
 go_wp2_with fail
 refine HR.out.mono ?_
 rintro e w2 ⟨z, hz, rfl, hw2⟩
 replace hw2 := hw2.symm
 subst hw2
 have hz' : decide (0 <= z) = q := hz
 clear HR
 go_wp2
 go_ret
 first | exact ⟨rfl, rfl⟩ | exact ⟨by rw [hz'], rfl⟩ | exact ⟨by rw [hz], rfl⟩
theorem miss_any (p b g n cap : Nat) (i : Int) (w : World) (hb : w.cell? ⟨b, 0, none⟩ = some (.pointer (some ⟨p, 0, none⟩))) (hc : w.cell? ⟨p, 1, none⟩ = some (.slice (some ⟨g, 0, none⟩) n cap)) (hn : n <= 1000000000) :
  Calls Try.prog 91 #[.int .i64 i, .pointer (some ⟨b, 0, none⟩)] w fun e w' => e = .returned (.bool (!(decide (0 <= i) && decide (i < (n : Int))))) /\ w' = w := by
 by_cases hi : i < 0 \/ (n : Int) <= i
 ·have r := at_no p n cap (some ⟨g, 0, none⟩) i w hc hi hn
  rw [there_no hi]
  clear hi
  go_enter Try.func91, Try.ntmps91
  go_wp2_with (go_at_call 50; refine r.mono ?_; rintro e w2 ⟨rfl, hw2⟩; replace hw2 := hw2.symm; subst hw2)
  go_ret
  exact ⟨rfl, rfl⟩
 ·obtain ⟨k, rfl⟩ : ∃ k : Nat, i = (k : Int) := ⟨i.toNat, by omega⟩
  rw [there_yes (by omega)]
  exact miss_in p b g n cap k w hb hc (by omega) hn
def missB (n : Nat) (x : Int) : Bool := !(decide (0 <= x) && decide (x < (n : Int)))
def hideB (M : Dm) (x : Int) : Bool := !showB (M.nd x.toNat)
theorem missB_iff {n : Nat} {x : Int} : missB n x = false ↔ inN n x := by
 unfold missB inN
 by_cases h1 : 0 <= x <;> by_cases h2 : x < (n : Int) <;> simp [h1, h2]
theorem hideB_iff {M : Dm} {x : Int} : hideB M x = false ↔ shows M x := by
 unfold hideB showB shows
 by_cases h1 : (M.nd x.toNat).kind = 1 <;> simp [h1]
theorem mayGive_any (K : Nat -> Prop) (p : Nat) (slot : Int) (l : List Int) (n : Nat) (hln : l.length = n) (hnl : n <= 1000000) (a : Option Addr) (cap : Nat) (M : Dm) (w : World) (h : DX K w p M) (hn : M.n <= 1000000) (hr : IntsZ (fun k => k < w.heap.size) w a l) (z : Int) (hz : Gives M slot l z) :
  Calls Try.prog 59 #[.pointer (some ⟨p, 0, none⟩), .int .i64 slot, .slice a n cap] w fun e w' => e = .returned (.int .u16 z) /\ Kept (fun k => k < w.heap.size) w w' := by
 obtain ⟨ga, gc, hY⟩ := h
 obtain ⟨V, hV⟩ : ∃ V, w.alloc (.cells #[.pointer (some ⟨p, 0, none⟩)] 24) = V := ⟨_, rfl⟩
 obtain ⟨b, hb⟩ : ∃ b, w.heap.size = b := ⟨_, rfl⟩
 have kV : Kept (fun k => k < w.heap.size) w V := by rw [<- hV]; exact (Kept.refl _ w).alloc (fun _ h => h) _
 have hbV : V.cell? ⟨b, 0, none⟩ = some (.pointer (some ⟨p, 0, none⟩)) := by
  rw [<- hV, <- hb, cell_block (heap_alloc_new w _)]; rfl
 have hYV := hY.kept kV
 have hrV : IntsZ (fun k => k < V.heap.size) V a l := hr.kept kV fun g hg => Nat.lt_of_lt_of_le hg kV.size
 have HV : Hid (w.alloc (.cells #[.pointer (some ⟨p, 0, none⟩)] 24) = V) := hV
 have HB : Hid (w.heap.size = b) := hb
 have HK : Hid (Kept (fun k => k < w.heap.size) w V) := kV
 by_cases hsl : inN M.n slot
 ·obtain ⟨s, rfl⟩ : ∃ s : Nat, slot = (s : Int) := ⟨slot.toNat, by have := hsl.1; omega⟩
  have hs : s < M.n := by have := hsl.2; omega
  obtain ⟨g, rfl, -, -, -⟩ := hYV.at (by omega)
  have c1 := hYV.c1
  have r0 := miss_in p b g M.n gc s V hbV c1 hs (by omega)
  have n1 : Tells V (.func (.func 91) #[] #[.pointer (some ⟨b, 0, none⟩)]) (missB M.n) l := ⟨91, _, rfl, enter91, fun x _ => miss_any p b g M.n gc x V hbV c1 (by omega)⟩
  have q1 := contains_any l n hln hnl a cap _ _ V hrV n1
  obtain ⟨t1, ht1⟩ : ∃ t, l.any (missB M.n) = t := ⟨_, rfl⟩
  rw [ht1] at q1
  cases t1 with
  | true =>
   have hz0 : z = 80 := hz.gOne hsl (by
    obtain ⟨x, hx, hb⟩ := List.any_eq_true.1 ht1
    exact ⟨x, hx, fun hi => by rw [missB_iff.2 hi] at hb; cases hb⟩)
   subst hz0
   clear hY hV hb kV hYV hrV n1 hr hln hz ht1 hsl
   go_enter Try.func59, Try.ntmps59
   go_upto_region 1 with fail
   rw [HV.out, HB.out]
   clear HV HB
   go_wp2_with (first | (go_at_call 91; with_reducible refine r0.mono ?_; rintro e w2 ⟨rfl, hw2⟩; replace hw2 := hw2.symm; subst hw2) | (go_at_call 81; with_reducible refine q1.mono ?_; rintro e w2 ⟨rfl, hw2⟩; replace hw2 := hw2.symm; subst hw2))
   go_ret
   exact ⟨rfl, HK.out⟩
  | false =>
   have hall : ∀ x ∈ l, inN M.n x := fun x hx => missB_iff.1 (by
    cases hm : missB M.n x with
    | false => rfl
    | true => rw [List.any_eq_true.2 ⟨x, hx, hm⟩] at ht1; cases ht1)
   obtain ⟨aa, ac, hc, -⟩ := hYV.cell hs
   have s0 : V.cell? ⟨g, s * 22, none⟩ = some (.int .u8 ((M.nd s).kind : Int)) := hc 0 _ rfl
   have s1 : V.cell? ⟨g, s * 22 + 1, none⟩ = some (sv (M.nd s).name) := hc 1 _ rfl
   have re := isElement_any g (s * 22) (M.nd s).kind ⟨(M.nd s).name.toArray⟩ ⟨#[115, 108, 111, 116]⟩ V s0 s1
   have n2 : Tells V (.func (.func 92) #[] #[.pointer (some ⟨b, 0, none⟩)]) (hideB M) l := ⟨92, _, rfl, enter92, fun x hx => by
    obtain ⟨k, rfl⟩ : ∃ k : Nat, x = (k : Int) := ⟨x.toNat, by have := (hall x hx).1; omega⟩
    have hk : k < M.n := by have := (hall _ hx).2; omega
    obtain ⟨aa, ac, hc, -⟩ := hYV.cell hk
    exact hide_in p b g M.n gc k (M.nd k) V hbV c1 (hc 0 _ rfl) hk (by omega)⟩
   have q2 := contains_any l n hln hnl a cap _ _ V hrV n2
   obtain ⟨t2, ht2⟩ : ∃ t, l.any (hideB M) = t := ⟨_, rfl⟩
   rw [ht2] at q2
   obtain ⟨te, hte⟩ : ∃ t, (decide ((M.nd s).kind = 1) && ByteArray.toList ⟨(M.nd s).name.toArray⟩ == ByteArray.toList ⟨#[115, 108, 111, 116]⟩) = t := ⟨_, rfl⟩
   rw [hte] at re
   obtain ⟨mm, hmm⟩ : ∃ mm, M.n = mm := ⟨_, rfl⟩
   rw [hmm] at c1 hs
   cases te with
   | false =>
    have hz0 : z = 110 := hz.gSlot hsl hall (by
     rw [slotB_list, ByteArray.toList_eq] at hte
     show (M.nd s).kind ≠ 1 \/ (M.nd s).name ≠ slotN
     by_cases c : (M.nd s).kind = 1
     ·right
      intro e
      rw [decide_eq_true c, e] at hte
      simp at hte
     ·exact .inl c)
    subst hz0
    clear hY hV hb kV hYV hrV n1 n2 hr hln hz ht1 hsl hall hc s0 s1 hte ht2 hmm q2
    go_enter Try.func59, Try.ntmps59
    go_upto_region 1 with fail
    rw [HV.out, HB.out]
    clear HV HB
    go_wp2_with (first | (go_at_call 91; with_reducible refine r0.mono ?_; rintro e w2 ⟨rfl, hw2⟩; replace hw2 := hw2.symm; subst hw2) | (go_at_call 81; with_reducible refine q1.mono ?_; rintro e w2 ⟨rfl, hw2⟩; replace hw2 := hw2.symm; subst hw2) | (go_at_call 46; refine re.mono ?_; rintro e w2 ⟨rfl, hw2⟩; replace hw2 := hw2.symm; subst hw2))
    go_ret
    exact ⟨rfl, HK.out⟩
   | true =>
    have hel : (M.nd s).kind = 1 /\ (M.nd s).name = slotN := by
     rw [slotB_list, ByteArray.toList_eq] at hte
     simpa using hte
    cases t2 with
    | true =>
     have hz0 : z = 81 := hz.gShow hsl hall hel.1 hel.2 (by
      obtain ⟨x, hx, hb⟩ := List.any_eq_true.1 ht2
      exact ⟨x, hx, fun hi => by rw [hideB_iff.2 hi] at hb; cases hb⟩)
     subst hz0
     clear hY hV hb kV hYV hrV n1 n2 hr hln hz ht1 hsl hall hc s0 s1 hte ht2 hmm hel
     go_enter Try.func59, Try.ntmps59
     go_upto_region 1 with fail
     rw [HV.out, HB.out]
     clear HV HB
     go_wp2_with (first | (go_at_call 91; with_reducible refine r0.mono ?_; rintro e w2 ⟨rfl, hw2⟩; replace hw2 := hw2.symm; subst hw2) | (go_at_call 81; with_reducible refine q1.mono ?_; rintro e w2 ⟨rfl, hw2⟩; replace hw2 := hw2.symm; subst hw2) | (go_at_call 81; with_reducible refine q2.mono ?_; rintro e w2 ⟨rfl, hw2⟩; replace hw2 := hw2.symm; subst hw2) | (go_at_call 46; refine re.mono ?_; rintro e w2 ⟨rfl, hw2⟩; replace hw2 := hw2.symm; subst hw2))
     go_ret
     exact ⟨rfl, HK.out⟩
    | false =>
     have hsh : ∀ x ∈ l, shows M x := fun x hx => hideB_iff.1 (by
      cases hm : hideB M x with
      | false => rfl
      | true => rw [List.any_eq_true.2 ⟨x, hx, hm⟩] at ht2; cases ht2)
     by_cases h200 : n <= 200
     ·have hle : decide ((n : Int) > 200) = false := decide_eq_false (by omega)
      have hz0 : z = 0 := hz.gOk hsl hall hel.1 hel.2 hsh (by rw [hln]; exact h200)
      subst hz0
      clear hY hV hb kV hYV hrV n1 n2 hr hln hz ht1 hsl hall hc s0 s1 hte ht2 hmm hel hsh
      go_enter Try.func59, Try.ntmps59
      go_upto_region 1 with fail
      rw [HV.out, HB.out]
      clear HV HB
      go_wp2_with (first | (go_at_call 91; with_reducible refine r0.mono ?_; rintro e w2 ⟨rfl, hw2⟩; replace hw2 := hw2.symm; subst hw2) | (go_at_call 81; with_reducible refine q1.mono ?_; rintro e w2 ⟨rfl, hw2⟩; replace hw2 := hw2.symm; subst hw2) | (go_at_call 81; with_reducible refine q2.mono ?_; rintro e w2 ⟨rfl, hw2⟩; replace hw2 := hw2.symm; subst hw2) | (go_at_call 46; refine re.mono ?_; rintro e w2 ⟨rfl, hw2⟩; replace hw2 := hw2.symm; subst hw2))
      go_ret
      exact ⟨rfl, HK.out⟩
     ·have hle : decide ((n : Int) > 200) = true := decide_eq_true (by omega)
      have hz0 : z = 1 := hz.gMany hsl hall hel.1 hel.2 hsh (by rw [hln]; omega)
      subst hz0
      clear hY hV hb kV hYV hrV n1 n2 hr hln hz ht1 hsl hall hc s0 s1 hte ht2 hmm hel hsh
      go_enter Try.func59, Try.ntmps59
      go_upto_region 1 with fail
      rw [HV.out, HB.out]
      clear HV HB
      go_wp2_with (first | (go_at_call 91; with_reducible refine r0.mono ?_; rintro e w2 ⟨rfl, hw2⟩; replace hw2 := hw2.symm; subst hw2) | (go_at_call 81; with_reducible refine q1.mono ?_; rintro e w2 ⟨rfl, hw2⟩; replace hw2 := hw2.symm; subst hw2) | (go_at_call 81; with_reducible refine q2.mono ?_; rintro e w2 ⟨rfl, hw2⟩; replace hw2 := hw2.symm; subst hw2) | (go_at_call 46; refine re.mono ?_; rintro e w2 ⟨rfl, hw2⟩; replace hw2 := hw2.symm; subst hw2))
      go_ret
      exact ⟨rfl, HK.out⟩
 ·have hz0 : z = 80 := hz.gNone hsl
  subst hz0
  have hno : slot < 0 \/ (M.n : Int) <= slot := by
   unfold inN at hsl
   omega
  have c1 := hYV.c1
  have ra := at_no p M.n gc ga slot V c1 hno (by omega)
  have r0 : Calls Try.prog 91 #[.int .i64 slot, .pointer (some ⟨b, 0, none⟩)] V fun e w' => e = .returned (.bool true) /\ w' = V := by
   clear hY hV hb kV hYV hrV hr hln hz hsl hno HV HB HK
   go_enter Try.func91, Try.ntmps91
   go_wp2_with (go_at_call 50; refine ra.mono ?_; rintro e w2 ⟨rfl, hw2⟩; replace hw2 := hw2.symm; subst hw2)
   go_ret
   exact ⟨rfl, rfl⟩
  clear hY hV hb kV hYV hrV hr hln hz hsl hno ra c1
  go_enter Try.func59, Try.ntmps59
  go_upto_region 1 with fail
  rw [HV.out, HB.out]
  clear HV HB
  go_wp2_with (go_at_call 91; with_reducible refine r0.mono ?_; rintro e w2 ⟨rfl, hw2⟩; replace hw2 := hw2.symm; subst hw2)
  go_ret
  exact ⟨rfl, HK.out⟩
structure GiveOk2 (S : Dm) (slot : Nat) (l : List Nat) : Prop where
 slt : slot < S.n
 all : ∀ i ∈ l, i < S.n
 few : l.length <= 200
 gives : Gives S (slot : Int) (l.map fun k : Nat => (k : Int)) 0
theorem give_ok2 (K : Nat -> Prop) (p slot : Nat) (l : List Nat) (n : Nat) (hln : l.length = n) (a : Option Addr) (cap : Nat) (S : Dm) (G : Nat -> List Nat) (w : World) (h : DX K w p S) (hW : WF S.n S.gf G) (hG : GiveOk2 S slot l) (hn : S.n <= 1000000) (hr : RowI w a l) (hra : ∀ g o, a = some ⟨g, o, none⟩ -> l ≠ [] -> K g) :
  Calls Try.prog 24 #[.pointer (some ⟨p, 0, none⟩), .int .i64 (slot : Int), .slice a n cap] w fun e w' => e = .returned (.int .u16 0) /\ DX K w' p (S.setG (addsL (outsL S.gf (G slot)) slot l)) /\ Kept K w w' := by
 have rm := mayGive_any K p (slot : Int) (l.map fun k : Nat => (k : Int)) n (by rw [List.length_map]; exact hln) (by have := hG.few; omega) a cap S w h hn (fun j hj => by
  rw [List.length_map] at hj
  obtain ⟨g, o, e, d⟩ := hr j hj
  exact ⟨g, o, e, h.lt g (hra g o e (fun e' => by rw [e'] at hj; cases hj)), by rw [List.getElem_map]; exact d⟩) 0 hG.gives
 obtain ⟨ga, gc, hY⟩ := h
 obtain ⟨g, rfl, -, -, -⟩ := hY.at (by have := hG.slt; omega)
 have RR : Hid (∀ X, Kept (fun k => k < w.heap.size) w X -> Calls Try.prog 61 #[chG p, .int .i64 (slot : Int)] X fun e w' => ∃ ao c, e = .returned (.slice ao (G slot).length c) /\ OwnZ (fun k => k < X.heap.size) w' 3 1 ao (G slot).length c (ivs (G slot)) /\ Kept (fun k => k < X.heap.size) X w') := fun X hX => rowG K p g gc slot S G X (hY.kept hX) hW hG.slt hn
 have hQl := hW.len_le hG.slt
 have hQlt := hW.lt slot hG.slt
 obtain ⟨Q, hQ⟩ : ∃ Q, G slot = Q := ⟨_, rfl⟩
 rw [hQ] at RR hQl hQlt ⊢
 have HY : Hid (DY K w p S (some ⟨g, 0, none⟩) gc) := hY
 have HWX : Hid (WFx S.n S.gf) := ⟨G, hW⟩
 have HQL : Hid (∀ i ∈ Q, i < S.n) := hQlt
 have HG : Hid (GiveOk2 S slot l) := hG
 have HR : Hid (RowI w a l) := hr
 have HRA : Hid (∀ g o, a = some ⟨g, o, none⟩ -> l ≠ [] -> K g) := hra
 have HLN : Hid (l.length = n) := hln
 have hn200 : n <= 200 := by rw [<- hln]; exact hG.few
 have hQ6 : Q.length <= 1000000 := by omega
 have HNN : Hid (S.n <= 1000000) := hn
 clear hY hW hG hr hra hln hQ hQl hQlt hn
 go_enter Try.func24, Try.ntmps24
 go_wp2_with fail
 refine rm.mono ?_
 rintro e w1 ⟨rfl, k1⟩
 have rr := RR.out w1 k1
 have HRR : Hid (Calls Try.prog 61 #[chG p, .int .i64 (slot : Int)] w1 fun e w' => ∃ ao c, e = .returned (.slice ao Q.length c) /\ OwnZ (fun k => k < w1.heap.size) w' 3 1 ao Q.length c (ivs Q) /\ Kept (fun k => k < w1.heap.size) w1 w') := rr
 have HK1 : Hid (Kept (fun k => k < w.heap.size) w w1) := k1
 clear rm rr RR k1
 go_wp2_with (go_at_call 60; refine (gifts_any _ _).mono ?_; rintro e w2 ⟨rfl, hw2⟩; replace hw2 := hw2.symm; subst hw2)
 refine HRR.out.mono ?_
 rintro e w2 ⟨ao, c, rfl, hO, hK2⟩
 obtain ⟨K2, hK2e⟩ : ∃ K2 : Nat -> Prop, (fun k => K k \/ blkOf ao k) = K2 := ⟨_, rfl⟩
 have kk : Kept (fun k => k < w.heap.size) w w2 := HK1.out.trans (hK2.mono fun k h => Nat.lt_of_lt_of_le h HK1.out.size)
 have hY2 : DY K2 w2 p S (some ⟨g, 0, none⟩) gc := by
  rw [<- hK2e]
  refine HY.out.more kk (fun k hk => ?_) (fun k hk => ?_)
  ·rcases hk with hk | hk
   ·exact .inl hk
   ·exact .inr (Nat.le_trans HK1.out.size (Nat.le_of_not_lt (OwnZ.out hO hk).1))
  ·rcases hk with hk | hk
   ·exact Nat.lt_of_lt_of_le (HY.out.1 k hk) kk.size
   ·exact (OwnZ.out hO hk).2
 have HO : Hid (OwnZ (fun k => k < w1.heap.size) w2 3 1 ao Q.length c (ivs Q)) := hO
 have HY2 : Hid (DY K2 w2 p S (some ⟨g, 0, none⟩) gc) := hY2
 have HK2 : Hid ((fun k => K k \/ blkOf ao k) = K2) := hK2e
 have HKW : Hid (Kept K w w2) := kk.mono HY.out.1
 obtain ⟨N, hN⟩ : ∃ N, Q.length = N := ⟨_, rfl⟩
 rw [hN] at hQ6 ⊢
 have HN : Hid (Q.length = N) := hN
 clear hO hK2 hY2 hK2e kk hN HRR
 go_upto_region 6 with fail
 go_loopg [26] N (fun gh v wr => ∃ j : Nat, gh = N - j /\ j <= N /\ v = .int .i64 (j : Int) /\ DY K2 wr p (S.setG (outsL S.gf (Q.take j))) (some ⟨g, 0, none⟩) gc /\ Kept K2 w2 wr)
 case atStart => exact ⟨0, rfl, Nat.zero_le _, rfl, HY2.out, Kept.refl _ _⟩
 case round =>
  obtain ⟨j, hgj, hj, rfl, hYj, hKj⟩ := hrel
  by_cases hlt : j < N
  ·have hl : j < Q.length := by rw [HN.out]; exact hlt
   obtain ⟨R', hW'⟩ := HWX.out.outs (Q.take j) (fun q hq => HQL.out q (List.mem_of_mem_take hq))
   have hQj : Q[j] < S.n := HQL.out Q[j] (List.getElem_mem hl)
   have rt := takeOutG K2 p g gc Q[j] (S.setG (outsL S.gf (Q.take j))) R' wr hYj hW' hQj (by have := HNN.out; show S.n <= _; omega)
   obtain ⟨gq, hgq, hcell⟩ := HO.out.cell (j := j) (u := iv Q[j]) (by simp [ivs, hl])
   have hcw : wr.cell? ⟨gq, j, none⟩ = some (.int .i64 (Q[j] : Int)) := by
    rw [hKj.cell (p := ⟨gq, j, none⟩) (by rw [<- HK2.out]; exact .inr hgq)]
    exact hcell
   have e1 : outL (outsL S.gf (Q.take j)) Q[j] = outsL S.gf (Q.take (j + 1)) := by
    rw [List.take_succ_eq_append_getElem hl, outsL_append]; rfl
   have rt' : Calls Try.prog 54 #[chG p, .int .i64 (Q[j] : Int)] wr fun e w' => e = .returned (.tuple #[]) /\ DY K2 w' p (S.setG (outsL S.gf (Q.take (j + 1)))) (some ⟨g, 0, none⟩) gc /\ Kept K2 wr w' := by
    rw [<- e1]; exact rt
   subst hgq
   obtain ⟨q, hq⟩ : ∃ q, Q[j] = q := ⟨_, rfl⟩
   rw [hq] at rt' hcw
   have HKj : Hid (Kept K2 w2 wr) := hKj
   clear rt e1 hcell hYj hKj hq hQj hW'
   go_wp2_with fail
   refine rt'.mono ?_
   rintro e w3 ⟨rfl, hY3, hK3⟩
   have HY3 : Hid (DY K2 w3 p (S.setG (outsL S.gf (Q.take (j + 1)))) (some ⟨g, 0, none⟩) gc) := hY3
   have HK3 : Hid (Kept K2 w2 w3) := HKj.out.trans hK3
   clear rt' hY3 hK3 hcw
   go_wp2
   go_roundg (N - (j + 1))
   case rel => exact ⟨j + 1, rfl, by omega, by go_num, HY3.out, HK3.out⟩
   case measure => omega
  ·have hjN : j = N := by omega
   subst hjN
   have hall : Q.take j = Q := List.take_of_length_le (by rw [HN.out]; exact Nat.le_refl _)
   rw [hall] at hYj
   obtain ⟨L0, hL0⟩ : ∃ L0, outsL S.gf Q = L0 := ⟨_, rfl⟩
   have hWX0 := HWX.out.outs Q HQL.out
   rw [hL0] at hYj hWX0
   have HL0 : Hid (outsL S.gf Q = L0) := hL0
   have HWX0 : Hid (WFx S.n L0) := hWX0
   have HYF : Hid (DY K wr p (S.setG L0) (some ⟨g, 0, none⟩) gc) := hYj.more (Kept.refl _ _) (fun k hk => .inl (by rw [<- HK2.out]; exact .inl hk)) (fun k hk => hYj.1 k (by rw [<- HK2.out]; exact .inl hk))
   have HKF : Hid (Kept K w wr) := HKW.out.trans (hKj.mono fun k hk => by rw [<- HK2.out]; exact .inl hk)
   obtain ⟨W5, rfl⟩ : ∃ W5, W5 = wr := ⟨_, rfl⟩
   clear hYj hKj hall hL0 hWX0 HO HY2 HK2 HKW
   go_upto_region 11 with fail
   go_loopg [36] n (fun gh2 s wy => ∃ j2 : Nat, gh2 = n - j2 /\ j2 <= n /\ s = .int .i64 (j2 : Int) /\ DX K wy p (S.setG (addsL L0 slot (l.take j2))) /\ Kept K w wy)
   case atStart => exact ⟨0, rfl, Nat.zero_le _, rfl, ⟨_, _, HYF.out⟩, HKF.out⟩
   case round =>
    obtain ⟨j2, hg2, hj2, rfl, hX5, hK5⟩ := hrel
    by_cases hl2 : j2 < n
    ·have hl : j2 < l.length := by rw [HLN.out]; exact hl2
     have hmem := List.getElem_mem hl
     have hli := HG.out.all l[j2] hmem
     obtain ⟨x, o, rfl, d⟩ := HR.out j2 hl
     have hd : wr.cell? ⟨x, o + j2, none⟩ = some (.int .i64 (l[j2] : Int)) := (hK5.cell (p := ⟨x, o + j2, none⟩) (HRA.out x o rfl (fun e => by rw [e] at hl; cases hl))).trans d
     have hn9 : (S.setG (addsL L0 slot (l.take j2))).n <= 1000000000 := by have := HNN.out; show S.n <= _; omega
     have rs := slot_in K p l[j2] _ wr hX5 hli hn9
     obtain ⟨R5, hW5⟩ := HWX0.out.adds HG.out.slt (l.take j2) (fun i hi => HG.out.all i (List.mem_of_mem_take hi))
     have e1 : addsL L0 slot (l.take (j2 + 1)) = if (addsL L0 slot (l.take j2) l[j2]).up = (slot : Int) then addsL L0 slot (l.take j2) else putL (addsL L0 slot (l.take j2)) slot l[j2] (-1) := by
      rw [List.take_succ_eq_append_getElem hl, addsL_append]; rfl
     obtain ⟨ga5, gc5, hY5⟩ := hX5
     obtain ⟨g5, rfl, -, -, -⟩ := hY5.at (by show 0 < S.n; omega)
     have rp : Calls Try.prog 63 #[chG p, .int .i64 (slot : Int), .int .i64 (l[j2] : Int), .int .i64 (-1)] wr fun e w' => e = .returned (.tuple #[]) /\ DY K w' p ((S.setG (addsL L0 slot (l.take j2))).setG (putL (S.setG (addsL L0 slot (l.take j2))).gf slot l[j2] (-1))) (some ⟨g5, 0, none⟩) gc5 /\ Kept K wr w' := by
      by_cases cs : slot = l[j2]
      ·rw [<- cs]; exact putGself K p g5 gc5 slot (S.setG (addsL L0 slot (l.take j2))) R5 wr hY5 hW5 HG.out.slt hn9
      ·exact putG K p g5 gc5 slot l[j2] (-1) (S.setG (addsL L0 slot (l.take j2))) R5 wr hY5 hW5 HG.out.slt hli cs (.inl rfl) hn9
     obtain ⟨z, hz⟩ : ∃ z, (addsL L0 slot (l.take j2) l[j2]).up = z := ⟨_, rfl⟩
     have rs' : Calls Try.prog 62 #[.pointer (some ⟨p, 0, none⟩), .int .i64 (l[j2] : Int)] wr fun e w' => e = .returned (.int .i64 z) /\ w' = wr := by rw [<- hz]; exact rs
     rw [hz] at e1
     obtain ⟨q, hq⟩ : ∃ q, l[j2] = q := ⟨_, rfl⟩
     rw [hq] at hd rs' rp e1
     have HY5 : Hid (DY K wr p (S.setG (addsL L0 slot (l.take j2))) (some ⟨g5, 0, none⟩) gc5) := hY5
     have HK5 : Hid (Kept K w wr) := hK5
     have HE1 : Hid (addsL L0 slot (l.take (j2 + 1)) = if z = (slot : Int) then addsL L0 slot (l.take j2) else putL (addsL L0 slot (l.take j2)) slot q (-1)) := e1
     have HRP : Hid (Calls Try.prog 63 #[chG p, .int .i64 (slot : Int), .int .i64 (q : Int), .int .i64 (-1)] wr fun e w' => e = .returned (.tuple #[]) /\ DY K w' p (S.setG (putL (addsL L0 slot (l.take j2)) slot q (-1))) (some ⟨g5, 0, none⟩) gc5 /\ Kept K wr w') := rp
     clear rs rp hY5 hK5 e1 hW5 d hz hq hmem hli
     by_cases cz : z = (slot : Int)
     ·subst cz
      have he := HE1.out
      rw [if_pos rfl] at he
      have HE : Hid (addsL L0 slot (l.take (j2 + 1)) = addsL L0 slot (l.take j2)) := he
      clear he HE1 HRP
      go_wp2_with (go_at_call 62; refine rs'.mono ?_; rintro e w6 ⟨rfl, hw6⟩; replace hw6 := hw6.symm; subst hw6)
      go_roundg (n - (j2 + 1))
      case rel => exact ⟨j2 + 1, rfl, by omega, by go_num, by rw [HE.out]; exact ⟨_, _, HY5.out⟩, HK5.out⟩
      case measure => omega
     ·have he := HE1.out
      rw [if_neg cz] at he
      have HE : Hid (addsL L0 slot (l.take (j2 + 1)) = putL (addsL L0 slot (l.take j2)) slot q (-1)) := he
      have hne : (z != (slot : Int)) = true := by simpa using cz
      clear he HE1 cz
      go_wp2_with (go_at_call 62; refine rs'.mono ?_; rintro e w6 ⟨rfl, hw6⟩; replace hw6 := hw6.symm; subst hw6)
      refine HRP.out.mono ?_
      rintro e w7 ⟨rfl, hY7, hK7⟩
      have HX7 : Hid (DX K w7 p (S.setG (addsL L0 slot (l.take (j2 + 1))))) := by rw [HE.out]; exact ⟨_, _, hY7⟩
      have HK7 : Hid (Kept K w w7) := HK5.out.trans hK7
      clear HRP hY7 hK7 rs' hd
      go_wp2
      go_roundg (n - (j2 + 1))
      case rel => exact ⟨j2 + 1, rfl, by omega, by go_num, HX7.out, HK7.out⟩
      case measure => omega
    ·have hjn : j2 = n := by omega
     subst hjn
     have hall : l.take j2 = l := List.take_of_length_le (by rw [HLN.out]; exact Nat.le_refl _)
     rw [hall] at hX5
     have HX5 : Hid (DX K wr p (S.setG (addsL L0 slot l))) := hX5
     have HK5 : Hid (Kept K w wr) := hK5
     clear hX5 hK5 hall
     go_wp2
     go_ret
     exact ⟨rfl, by have := HX5.out; rw [<- HL0.out] at this; exact this, HK5.out⟩
end
section
open Go.RowKit
theorem Gives.le {M : Dm} {slot : Int} {l : List Int} {z : Int} (h : Gives M slot l z) : 0 <= z /\ z <= 200 := by
 by_cases h1 : inN M.n slot
 ·by_cases h2 : ∃ x ∈ l, ¬ inN M.n x
  ·rw [h.gOne h1 h2]; decide
  ·have h2 : ∀ x ∈ l, inN M.n x := fun x hx => Classical.byContradiction fun c => h2 ⟨x, hx, c⟩
   by_cases h3 : (M.nd slot.toNat).kind = 1 /\ (M.nd slot.toNat).name = slotN
   ·by_cases h4 : ∃ x ∈ l, ¬ shows M x
    ·rw [h.gShow h1 h2 h3.1 h3.2 h4]; decide
    ·have h4 : ∀ x ∈ l, shows M x := fun x hx => Classical.byContradiction fun c => h4 ⟨x, hx, c⟩
     by_cases h5 : l.length <= 200
     ·rw [h.gOk h1 h2 h3.1 h3.2 h4 h5]; decide
     ·rw [h.gMany h1 h2 h3.1 h3.2 h4 (by omega)]; decide
   ·rw [h.gSlot h1 h2 (by
     by_cases c1 : (M.nd slot.toNat).kind = 1
     ·exact .inr fun c2 => h3 ⟨c1, c2⟩
     ·exact .inl c1)]; decide
 ·rw [h.gNone h1]; decide
theorem Gives.all {M : Dm} {slot : Int} {l : List Int} (h : Gives M slot l 0) : inN M.n slot /\ (∀ x ∈ l, inN M.n x) /\ l.length <= 200 := by
 have h1 : inN M.n slot := Classical.byContradiction fun c => by have := h.gNone c; cases this
 have h2 : ∀ x ∈ l, inN M.n x := fun x hx => Classical.byContradiction fun c => by have := h.gOne h1 ⟨x, hx, c⟩; cases this
 have h3 : (M.nd slot.toNat).kind = 1 /\ (M.nd slot.toNat).name = slotN := Classical.byContradiction fun c => by
  have := h.gSlot h1 h2 (by
   by_cases c1 : (M.nd slot.toNat).kind = 1
   ·exact .inr fun c2 => c ⟨c1, c2⟩
   ·exact .inl c1)
  cases this
 have h4 : ∀ x ∈ l, shows M x := fun x hx => Classical.byContradiction fun c => by have := h.gShow h1 h2 h3.1 h3.2 ⟨x, hx, c⟩; cases this
 refine ⟨h1, h2, Nat.le_of_not_lt fun c => ?_⟩
 have := h.gMany h1 h2 h3.1 h3.2 h4 c
 cases this
end
section
open Go.RowKit
theorem nodup_le : ∀ (n : Nat) (l : List Nat), l.Nodup -> (∀ i ∈ l, i < n) -> l.length <= n := by
 intro n
 induction n with
 | zero =>
  intro l _ hl
  cases l with
  | nil => exact Nat.le_refl _
  | cons x r => exact absurd (hl x (List.mem_cons_self ..)) (Nat.not_lt_zero _)
 | succ n ih =>
  intro l hn hl
  have h1 := ih (l.erase n) (hn.erase n) (fun i hi => by
   have a := hl i (List.mem_of_mem_erase hi)
   have b : i ≠ n := fun e => by
    subst e
    exact (List.Nodup.not_mem_erase hn) hi
   omega)
  have h2 : l.length <= (l.erase n).length + 1 := by
   by_cases hm : n ∈ l
   ·rw [List.length_erase_of_mem hm]; omega
   ·rw [List.erase_of_not_mem hm]; omega
  omega
end
section
open Go.RowKit Go.Sort
abbrev outN (x : Nd) (ao : Option Addr) (ac : Nat) (up : Int) (ko : Option Addr) (kn kc : Nat) : Array Value := outC x.kind ⟨x.name.toArray⟩ ⟨x.data.toArray⟩ ao x.attrs.length ac up ko kn kc x.shadow x.host x.content x.fl
end
end Go.Proofs.Ytljnjdckhkglfaa
