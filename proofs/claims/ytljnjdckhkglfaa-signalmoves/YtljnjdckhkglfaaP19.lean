/-
 slots: questions as func values; a row is picked over; the first of a tree.; Trees have no node twice; who stands in one (pure).; What is shown in slots, as plain functions (pure).
-/
import Derived.Test.YtljnjdckhkglfaaP16
import Derived.Test.YtljnjdckhkglfaaP10
import Derived.Test.YtljnjdckhkglfaaP04
import Derived.Test.YtljnjdckhkglfaaP17
namespace Go.Proofs.Ytljnjdckhkglfaa
set_option linter.unusedVariables false
set_option maxRecDepth 100000
set_option maxHeartbeats 8000000
section
open Go.RowKit
def AskN (w : World) (v : Value) (P : Nd -> Int -> Bool) : Prop :=
 ∃ f caps, v = .func (.func f) #[] caps /\ (∀ args X, (callFunc f args).run Try.prog X = .ok (.enter f args) X) /\
  ∀ (x : Nd) ao ac up ko kn kc X, Kept (fun k => k < w.heap.size) w X -> x.attrs.length <= 1000 -> AtsAt (fun k => k < X.heap.size) X ao x.attrs ->
   Calls Try.prog f (#[.agg (nV x ao ac up ko kn kc)] ++ caps) X fun e Y => e = .returned (.bool (P x up)) /\ Kept (fun k => k < X.heap.size) X Y
theorem AskN.kept {w w' : World} {v : Value} {P : Nd -> Int -> Bool} (h : AskN w v P) (hk : Kept (fun k => k < w.heap.size) w w') : AskN w' v P := by
 obtain ⟨f, caps, e, he, hc⟩ := h
 exact ⟨f, caps, e, he, fun x ao ac up ko kn kc X hX => hc x ao ac up ko kn kc X (hk.trans (hX.mono fun k h => Nat.lt_of_lt_of_le h hk.size))⟩
theorem enter34 (args : Array Value) (X : World) : (callFunc 34 args).run Try.prog X = .ok (.enter 34 args) X := entersE Try.func34 (by kernel_rfl) (c := _) rfl args X
theorem enter58 (args : Array Value) (X : World) : (callFunc 58 args).run Try.prog X = .ok (.enter 58 args) X := entersE Try.func58 (by kernel_rfl) (c := _) rfl args X
theorem enter72 (args : Array Value) (X : World) : (callFunc 72 args).run Try.prog X = .ok (.enter 72 args) X := entersE Try.func72 (by kernel_rfl) (c := _) rfl args X
theorem enter90 (args : Array Value) (X : World) : (callFunc 90 args).run Try.prog X = .ok (.enter 90 args) X := entersE Try.func90 (by kernel_rfl) (c := _) rfl args X
theorem enter101 (args : Array Value) (X : World) : (callFunc 101 args).run Try.prog X = .ok (.enter 101 args) X := entersE Try.func101 (by kernel_rfl) (c := _) rfl args X
theorem enter102 (args : Array Value) (X : World) : (callFunc 102 args).run Try.prog X = .ok (.enter 102 args) X := entersE Try.func102 (by kernel_rfl) (c := _) rfl args X
theorem ask_show (w : World) : AskN w (.func (.func 34) #[] #[]) fun x _ => showB x := ⟨34, #[], rfl, enter34, fun x ao ac up ko kn kc X _ _ _ => show_any x ao ac up ko kn kc X⟩
theorem ask_isSl (w : World) : AskN w (.func (.func 58) #[] #[]) fun x _ => isSl x := ⟨58, #[], rfl, enter58, fun x ao ac up ko kn kc X _ _ _ => isSl_any x ao ac up ko kn kc X⟩
theorem isIn_any (z : Int) (w : World) :
  Calls Try.prog 79 #[.int .i64 z] w fun e w' => e = .returned (.func (.func 101) #[] #[.pointer (some ⟨w.heap.size, 0, none⟩)]) /\ w' = w.alloc (.cells #[.int .i64 z] 3) := by
 go_enter Try.func79, Try.ntmps79
 go_wp2
 go_ret
 exact ⟨rfl, rfl⟩
theorem slotNamed_any (s : ByteArray) (w : World) :
  Calls Try.prog 37 #[.string s] w fun e w' => e = .returned (.func (.func 72) #[] #[.pointer (some ⟨w.heap.size, 0, none⟩)]) /\ w' = w.alloc (.cells #[.string s] 9) := by
 go_enter Try.func37, Try.ntmps37
 go_wp2
 go_ret
 exact ⟨rfl, rfl⟩
theorem asksFor_any (s : ByteArray) (w : World) :
  Calls Try.prog 80 #[.string s] w fun e w' => e = .returned (.func (.func 102) #[] #[.pointer (some ⟨w.heap.size, 0, none⟩)]) /\ w' = w.alloc (.cells #[.string s] 9) := by
 go_enter Try.func80, Try.ntmps80
 go_wp2
 go_ret
 exact ⟨rfl, rfl⟩
theorem isIn1_any (x : Nd) (ao : Option Addr) (ac : Nat) (up : Int) (ko : Option Addr) (kn kc : Nat) (z : Int) (b : Nat) (X : World) (hb0 : X.cell? ⟨b, 0, none⟩ = some (.int .i64 z)) :
  Calls Try.prog 101 #[.agg (nV x ao ac up ko kn kc), .pointer (some ⟨b, 0, none⟩)] X fun e w' => e = .returned (.bool (decide (up = z))) /\ Kept (fun k => k < X.heap.size) X w' := by
 obtain ⟨V, N, hV, hN, hb, hk, -⟩ := alloc_box X (nV x ao ac up ko kn kc)  42
 have c4 : V.cell? ⟨N, 4, none⟩ = some (.int .i64 up) := by rw [cell_block hb]; rfl
 have hbl : b < X.heap.size := World.block_lt_of_cell? X _ hb0
 have b0 : V.cell? ⟨b, 0, none⟩ = some (.int .i64 z) := (hk.cell (p := ⟨b, 0, none⟩) hbl).trans hb0
 have HK : Hid (Kept (fun k => k < X.heap.size) X V) := hk
 have HV : Hid (X.alloc (.cells (nV x ao ac up ko kn kc) 42) = V) := hV
 have HN : Hid (X.heap.size = N) := hN
 obtain ⟨q, hq⟩ : ∃ q, (up == z) = q := ⟨_, rfl⟩
 have hq' : decide (up = z) = q := by rw [<- hq]; by_cases c : up = z <;> simp [c]
 rw [hq']
 clear hV hN hb hk hb0 hbl hq'
 go_enter Try.func101, Try.ntmps101
 go_upto_region 1 with fail
 rw [HV.out, HN.out]
 clear HV HN
 cases q
 all_goals
  go_wp2
  go_ret
  exact ⟨rfl, HK.out⟩
theorem size41 (cs : Array Value) (h : cs.size = 14) : (Try.prog.info? 42).map (·.size) = some cs.size := by rw [h]; exact info36
theorem yields_row {o : Oper} {a : Act} {X : World} {x : Operand} {N : Nat} {cs : Array Value} (ho : o.op = .load 42 x) (hx : a.eval x = .pointer (some ⟨N, 0, none⟩)) (hb : X.heap[N]? = some (.cells cs 42 (0, 0))) (hc : cs.size = 14) : (execOp a.eval o).run Try.prog X = .ok (.value (.agg cs)) X := by
 unfold execOp
 simp only [ho, hx, Instr.loadAt, Instr.sureAddr, Sem.run_bind, Sem.run_pure, Result.andThen_ok, run_loadVar_row X N 42 42 cs (0, 0) _ hb Try.underlying42 rfl (size41 cs hc)]
theorem enter38 (args : Array Value) (X : World) : (callFunc 38 args).run Try.prog X = .ok (.enter 38 args) X := entersE Try.func38 (by kernel_rfl) (c := _) rfl args X
theorem slotNamed1_any (x : Nd) (ao : Option Addr) (ac : Nat) (up : Int) (ko : Option Addr) (kn kc : Nat) (s : ByteArray) (b : Nat) (X : World) (hl : x.attrs.length <= 1000) (ha : AtsAt (fun k => k < X.heap.size) X ao x.attrs) (hb0 : X.cell? ⟨b, 0, none⟩ = some (.string s)) :
  Calls Try.prog 72 #[.agg (nV x ao ac up ko kn kc), .pointer (some ⟨b, 0, none⟩)] X fun e w' => e = .returned (.bool (slNm s.toList x)) /\ Kept (fun k => k < X.heap.size) X w' := by
 obtain ⟨V, N, hV, hN, hb, hk, -⟩ := alloc_box X (nV x ao ac up ko kn kc)  42
 have hbl : b < X.heap.size := World.block_lt_of_cell? X _ hb0
 have b0 : V.cell? ⟨b, 0, none⟩ = some (.string s) := (hk.cell (p := ⟨b, 0, none⟩) hbl).trans hb0
 have haV : AtsAt (fun k => k < V.heap.size) V ao x.attrs := ha.kept hk fun k h => Nat.lt_of_lt_of_le h hk.size
 have R1 : Hid (∀ Y, Calls Try.prog 58 #[.agg (nV x ao ac up ko kn kc)] Y fun e w' => e = .returned (.bool (isSl x)) /\ Kept (fun k => k < Y.heap.size) Y w') := fun Y => isSl_any x ao ac up ko kn kc Y
 have R2 : Hid (∀ Y, Kept (fun k => k < V.heap.size) V Y -> Calls Try.prog 38 #[.agg (nV x ao ac up ko kn kc), .string ⟨#[110, 97, 109, 101]⟩] Y fun e w' => e = .returned (sv (atV nameN x.attrs)) /\ Kept (fun k => k < Y.heap.size) Y w') := fun Y hY => by
  have := attr_any x ao ac up ko kn kc ⟨#[110, 97, 109, 101]⟩ Y hl (haV.kept hY fun k h => Nat.lt_of_lt_of_le h hY.size)
  rw [ByteArray.toList_eq] at this
  exact this
 obtain ⟨cs, hcs⟩ : ∃ cs, nV x ao ac up ko kn kc = cs := ⟨_, rfl⟩
 have hcz : cs.size = 14 := by rw [<- hcs]; rfl
 rw [hcs] at R1 R2 hb hV ⊢
 have HK : Hid (Kept (fun k => k < X.heap.size) X V) := hk
 have HV : Hid (X.alloc (.cells cs 42) = V) := hV
 have HN : Hid (X.heap.size = N) := hN
 have HBK : Hid (∀ Y, Kept (fun k => k < V.heap.size) V Y -> Y.heap[N]? = some (.cells cs 42 (0, 0))) := fun Y hY => by rw [hY.block N (lt_block hb)]; exact hb
 have HB0 : Hid (∀ Y, Kept (fun k => k < V.heap.size) V Y -> Y.cell? ⟨b, 0, none⟩ = some (.string s)) := fun Y hY => (hY.cell (p := ⟨b, 0, none⟩) (Nat.lt_of_lt_of_le hbl hk.size)).trans b0
 obtain ⟨q, hq⟩ : ∃ q, slNm s.toList x = q := ⟨_, rfl⟩
 have HQ : Hid (slNm s.toList x = q) := hq
 rw [hq]
 obtain ⟨t, ht⟩ : ∃ t, isSl x = t := ⟨_, rfl⟩
 have HT : Hid (isSl x = t) := ht
 rw [ht] at R1
 obtain ⟨u, hu⟩ : ∃ u, (⟨(atV nameN x.attrs).toArray⟩ : ByteArray) = u := ⟨_, rfl⟩
 have HU : Hid (atV nameN x.attrs = u.toList) := by rw [<- hu, ByteArray.toList_eq]; exact rfl
 unfold sv at R2
 rw [hu] at R2
 clear hV hN hb hk hb0 hbl hq ht hu haV ha hcs b0
 go_enter Try.func72, Try.ntmps72
 go_upto_region 1 with fail
 rw [HV.out, HN.out]
 clear HV HN
 cases t with
 | false =>
  refine wp_region_held_drew (S := fun Y => Kept (fun k => k < V.heap.size) V Y) (by kernel_rfl) ((Kept.refl _ V).drew) (fun hHeld => ?_)
  refine tkH 0 4 (.agg cs) rfl rfl (by kernel_rfl) (by rfl) (by intro Y hY; exact yields_row rfl rfl (HBK.out Y hY) hcz) (fun _ _ _ h => h) hHeld ?_
  try simp only [Act.put, sA, s0, s1]
  refine clH 1 5 58 #[.agg cs] rfl rfl (by kernel_rfl) (by rfl) rfl (by first | rfl | (simp [Act.eval]; done) | (simp [Act.eval, Act.put]; done)) (enter58 _ _) (R1.out _) ?_
  rintro e Y ⟨rfl, hk9⟩
  refine ⟨_, rfl, hHeld.trans (hk9.mono fun k h => Nat.lt_of_lt_of_le h hHeld.size), fun hHeld2 => ?_⟩
  replace hHeld := hHeld2
  clear hHeld2
  try simp only [Act.put, sA, s0, s1]
  refine tkH 2 6 (.bool false) rfl rfl (by kernel_rfl) (by rfl) (by intro Y hY; go_simp; try with_reducible rfl) (fun _ _ _ h => h) hHeld ?_
  try simp only [Act.put, sA, s0, s1]
  refine tkU 3 7 rfl rfl (by kernel_rfl) (by rfl) (fun _ _ _ h => h) hHeld ?_
  try simp only [Act.put, sA, s0, s1]
  refine tkU 4 8 rfl rfl (by kernel_rfl) (by rfl) (fun _ _ _ h => h) hHeld ?_
  try simp only [Act.put, sA, s0, s1]
  refine tkU 5 9 rfl rfl (by kernel_rfl) (by rfl) (fun _ _ _ h => h) hHeld ?_
  try simp only [Act.put, sA, s0, s1]
  refine tkU 6 10 rfl rfl (by kernel_rfl) (by rfl) (fun _ _ _ h => h) hHeld ?_
  try simp only [Act.put, sA, s0, s1]
  refine tkH 7 11 (.bool false) rfl rfl (by kernel_rfl) (by rfl) (by intro Y hY; go_simp; try with_reducible rfl) (fun _ _ _ h => h) hHeld ?_
  try simp only [Act.put, sA, s0, s1]
  refine tkH 8 3 (.bool false) rfl rfl (by kernel_rfl) (by rfl) (by intro Y hY; go_simp; try with_reducible rfl) (fun _ _ _ h => h) hHeld ?_
  try simp only [Act.put, sA, s0, s1]
  refine wpAnyH_done (by kernel_rfl) ?_ _
  go_wp2
  go_ret
  exact ⟨by rw [<- HQ.out]; unfold slNm; rw [HT.out, Bool.false_and]; rfl, HK.out.trans (hHeld.mono fun k h => Nat.lt_of_lt_of_le h HK.out.size)⟩
 | true =>
  obtain ⟨d, hd⟩ : ∃ d, (u.toList == s.toList) = d := ⟨_, rfl⟩
  have HE : Hid (q = d) := by
   rw [<- HQ.out, <- hd]
   unfold slNm
   rw [HT.out, Bool.true_and, HU.out]
   by_cases c : u.toList = s.toList
   ·rw [decide_eq_true c, c]; exact (beq_self_eq_true _).symm
   ·rw [decide_eq_false c]; exact (beq_eq_false_iff_ne.2 c).symm
  refine wp_region_held_drew (S := fun Y => Kept (fun k => k < V.heap.size) V Y) (by kernel_rfl) ((Kept.refl _ V).drew) (fun hHeld => ?_)
  refine tkH 0 4 (.agg cs) rfl rfl (by kernel_rfl) (by rfl) (by intro Y hY; exact yields_row rfl rfl (HBK.out Y hY) hcz) (fun _ _ _ h => h) hHeld ?_
  try simp only [Act.put, sA, s0, s1]
  refine clH 1 5 58 #[.agg cs] rfl rfl (by kernel_rfl) (by rfl) rfl (by first | rfl | (simp [Act.eval]; done) | (simp [Act.eval, Act.put]; done)) (enter58 _ _) (R1.out _) ?_
  rintro e Y ⟨rfl, hk9⟩
  refine ⟨_, rfl, hHeld.trans (hk9.mono fun k h => Nat.lt_of_lt_of_le h hHeld.size), fun hHeld2 => ?_⟩
  replace hHeld := hHeld2
  clear hHeld2
  try simp only [Act.put, sA, s0, s1]
  refine tkH 2 6 (.bool true) rfl rfl (by kernel_rfl) (by rfl) (by intro Y hY; go_simp; try with_reducible rfl) (fun _ _ _ h => h) hHeld ?_
  try simp only [Act.put, sA, s0, s1]
  refine tkH 3 7 (.agg cs) rfl rfl (by kernel_rfl) (by rfl) (by intro Y hY; exact yields_row rfl rfl (HBK.out Y hY) hcz) (fun _ _ _ h => h) hHeld ?_
  try simp only [Act.put, sA, s0, s1]
  refine tkH 5 9 (.string s) rfl rfl (by kernel_rfl) (by rfl) (by intro Y hY; have hc := HB0.out Y hY; go_simp; try with_reducible rfl) (fun _ _ _ h => h) hHeld ?_
  try simp only [Act.put, sA, s0, s1]
  refine clH 4 8 38 #[.agg cs, .string ⟨#[110, 97, 109, 101]⟩] rfl rfl (by kernel_rfl) (by rfl) rfl (by first | rfl | (simp [Act.eval]; done) | (simp [Act.eval, Act.put]; done)) (enter38 _ _) (R2.out _ hHeld) ?_
  rintro e Y ⟨rfl, hk9⟩
  refine ⟨_, rfl, hHeld.trans (hk9.mono fun k h => Nat.lt_of_lt_of_le h hHeld.size), fun hHeld2 => ?_⟩
  replace hHeld := hHeld2
  clear hHeld2
  try simp only [Act.put, sA, s0, s1]
  cases d with
  | false =>
   refine tkH 6 10 (.bool false) rfl rfl (by kernel_rfl) (by rfl) (by intro Y hY; go_simp; try with_reducible rfl) (fun _ _ _ h => h) hHeld ?_
   try simp only [Act.put, sA, s0, s1]
   refine tkH 7 11 (.bool false) rfl rfl (by kernel_rfl) (by rfl) (by intro Y hY; go_simp; try with_reducible rfl) (fun _ _ _ h => h) hHeld ?_
   try simp only [Act.put, sA, s0, s1]
   refine tkH 8 3 (.bool false) rfl rfl (by kernel_rfl) (by rfl) (by intro Y hY; go_simp; try with_reducible rfl) (fun _ _ _ h => h) hHeld ?_
   try simp only [Act.put, sA, s0, s1]
   refine wpAnyH_done (by kernel_rfl) ?_ _
   go_wp2
   go_ret
   exact ⟨by rw [HE.out]; rfl, HK.out.trans (hHeld.mono fun k h => Nat.lt_of_lt_of_le h HK.out.size)⟩
  | true =>
   refine tkH 6 10 (.bool true) rfl rfl (by kernel_rfl) (by rfl) (by intro Y hY; go_simp; try with_reducible rfl) (fun _ _ _ h => h) hHeld ?_
   try simp only [Act.put, sA, s0, s1]
   refine tkH 7 11 (.bool true) rfl rfl (by kernel_rfl) (by rfl) (by intro Y hY; go_simp; try with_reducible rfl) (fun _ _ _ h => h) hHeld ?_
   try simp only [Act.put, sA, s0, s1]
   refine tkH 8 3 (.bool true) rfl rfl (by kernel_rfl) (by rfl) (by intro Y hY; go_simp; try with_reducible rfl) (fun _ _ _ h => h) hHeld ?_
   try simp only [Act.put, sA, s0, s1]
   refine wpAnyH_done (by kernel_rfl) ?_ _
   go_wp2
   go_ret
   exact ⟨by rw [HE.out]; rfl, HK.out.trans (hHeld.mono fun k h => Nat.lt_of_lt_of_le h HK.out.size)⟩
theorem asksFor1_any (x : Nd) (ao : Option Addr) (ac : Nat) (up : Int) (ko : Option Addr) (kn kc : Nat) (s : ByteArray) (b : Nat) (X : World) (hl : x.attrs.length <= 1000) (ha : AtsAt (fun k => k < X.heap.size) X ao x.attrs) (hb0 : X.cell? ⟨b, 0, none⟩ = some (.string s)) :
  Calls Try.prog 102 #[.agg (nV x ao ac up ko kn kc), .pointer (some ⟨b, 0, none⟩)] X fun e w' => e = .returned (.bool (asksB s.toList x)) /\ Kept (fun k => k < X.heap.size) X w' := by
 obtain ⟨V, N, hV, hN, hb, hk, -⟩ := alloc_box X (nV x ao ac up ko kn kc)  42
 have hbl : b < X.heap.size := World.block_lt_of_cell? X _ hb0
 have b0 : V.cell? ⟨b, 0, none⟩ = some (.string s) := (hk.cell (p := ⟨b, 0, none⟩) hbl).trans hb0
 have haV : AtsAt (fun k => k < V.heap.size) V ao x.attrs := ha.kept hk fun k h => Nat.lt_of_lt_of_le h hk.size
 have R1 : Hid (∀ Y, Calls Try.prog 34 #[.agg (nV x ao ac up ko kn kc)] Y fun e w' => e = .returned (.bool (showB x)) /\ Kept (fun k => k < Y.heap.size) Y w') := fun Y => show_any x ao ac up ko kn kc Y
 have R2 : Hid (∀ Y, Kept (fun k => k < V.heap.size) V Y -> Calls Try.prog 38 #[.agg (nV x ao ac up ko kn kc), .string ⟨#[115, 108, 111, 116]⟩] Y fun e w' => e = .returned (sv (atV slotN x.attrs)) /\ Kept (fun k => k < Y.heap.size) Y w') := fun Y hY => by
  have := attr_any x ao ac up ko kn kc ⟨#[115, 108, 111, 116]⟩ Y hl (haV.kept hY fun k h => Nat.lt_of_lt_of_le h hY.size)
  rw [ByteArray.toList_eq] at this
  exact this
 obtain ⟨cs, hcs⟩ : ∃ cs, nV x ao ac up ko kn kc = cs := ⟨_, rfl⟩
 have hcz : cs.size = 14 := by rw [<- hcs]; rfl
 rw [hcs] at R1 R2 hb hV ⊢
 have HK : Hid (Kept (fun k => k < X.heap.size) X V) := hk
 have HV : Hid (X.alloc (.cells cs 42) = V) := hV
 have HN : Hid (X.heap.size = N) := hN
 have HBK : Hid (∀ Y, Kept (fun k => k < V.heap.size) V Y -> Y.heap[N]? = some (.cells cs 42 (0, 0))) := fun Y hY => by rw [hY.block N (lt_block hb)]; exact hb
 have HB0 : Hid (∀ Y, Kept (fun k => k < V.heap.size) V Y -> Y.cell? ⟨b, 0, none⟩ = some (.string s)) := fun Y hY => (hY.cell (p := ⟨b, 0, none⟩) (Nat.lt_of_lt_of_le hbl hk.size)).trans b0
 obtain ⟨q, hq⟩ : ∃ q, asksB s.toList x = q := ⟨_, rfl⟩
 have HQ : Hid (asksB s.toList x = q) := hq
 rw [hq]
 obtain ⟨t, ht⟩ : ∃ t, showB x = t := ⟨_, rfl⟩
 have HT : Hid (showB x = t) := ht
 rw [ht] at R1
 obtain ⟨u, hu⟩ : ∃ u, (⟨(atV slotN x.attrs).toArray⟩ : ByteArray) = u := ⟨_, rfl⟩
 have HU : Hid (atV slotN x.attrs = u.toList) := by rw [<- hu, ByteArray.toList_eq]; exact rfl
 unfold sv at R2
 rw [hu] at R2
 clear hV hN hb hk hb0 hbl hq ht hu haV ha hcs b0
 go_enter Try.func102, Try.ntmps102
 go_upto_region 1 with fail
 rw [HV.out, HN.out]
 clear HV HN
 cases t with
 | false =>
  refine wp_region_held_drew (S := fun Y => Kept (fun k => k < V.heap.size) V Y) (by kernel_rfl) ((Kept.refl _ V).drew) (fun hHeld => ?_)
  refine tkH 0 4 (.agg cs) rfl rfl (by kernel_rfl) (by rfl) (by intro Y hY; exact yields_row rfl rfl (HBK.out Y hY) hcz) (fun _ _ _ h => h) hHeld ?_
  try simp only [Act.put, sA, s0, s1]
  refine clH 1 5 34 #[.agg cs] rfl rfl (by kernel_rfl) (by rfl) rfl (by first | rfl | (simp [Act.eval]; done) | (simp [Act.eval, Act.put]; done)) (enter34 _ _) (R1.out _) ?_
  rintro e Y ⟨rfl, hk9⟩
  refine ⟨_, rfl, hHeld.trans (hk9.mono fun k h => Nat.lt_of_lt_of_le h hHeld.size), fun hHeld2 => ?_⟩
  replace hHeld := hHeld2
  clear hHeld2
  try simp only [Act.put, sA, s0, s1]
  refine tkH 2 6 (.bool false) rfl rfl (by kernel_rfl) (by rfl) (by intro Y hY; go_simp; try with_reducible rfl) (fun _ _ _ h => h) hHeld ?_
  try simp only [Act.put, sA, s0, s1]
  refine tkU 3 7 rfl rfl (by kernel_rfl) (by rfl) (fun _ _ _ h => h) hHeld ?_
  try simp only [Act.put, sA, s0, s1]
  refine tkU 4 8 rfl rfl (by kernel_rfl) (by rfl) (fun _ _ _ h => h) hHeld ?_
  try simp only [Act.put, sA, s0, s1]
  refine tkU 5 9 rfl rfl (by kernel_rfl) (by rfl) (fun _ _ _ h => h) hHeld ?_
  try simp only [Act.put, sA, s0, s1]
  refine tkU 6 10 rfl rfl (by kernel_rfl) (by rfl) (fun _ _ _ h => h) hHeld ?_
  try simp only [Act.put, sA, s0, s1]
  refine tkH 7 11 (.bool false) rfl rfl (by kernel_rfl) (by rfl) (by intro Y hY; go_simp; try with_reducible rfl) (fun _ _ _ h => h) hHeld ?_
  try simp only [Act.put, sA, s0, s1]
  refine tkH 8 3 (.bool false) rfl rfl (by kernel_rfl) (by rfl) (by intro Y hY; go_simp; try with_reducible rfl) (fun _ _ _ h => h) hHeld ?_
  try simp only [Act.put, sA, s0, s1]
  refine wpAnyH_done (by kernel_rfl) ?_ _
  go_wp2
  go_ret
  exact ⟨by rw [<- HQ.out]; unfold asksB; rw [HT.out, Bool.false_and]; rfl, HK.out.trans (hHeld.mono fun k h => Nat.lt_of_lt_of_le h HK.out.size)⟩
 | true =>
  obtain ⟨d, hd⟩ : ∃ d, (u.toList == s.toList) = d := ⟨_, rfl⟩
  have HE : Hid (q = d) := by
   rw [<- HQ.out, <- hd]
   unfold asksB
   rw [HT.out, Bool.true_and, HU.out]
   by_cases c : u.toList = s.toList
   ·rw [decide_eq_true c, c]; exact (beq_self_eq_true _).symm
   ·rw [decide_eq_false c]; exact (beq_eq_false_iff_ne.2 c).symm
  refine wp_region_held_drew (S := fun Y => Kept (fun k => k < V.heap.size) V Y) (by kernel_rfl) ((Kept.refl _ V).drew) (fun hHeld => ?_)
  refine tkH 0 4 (.agg cs) rfl rfl (by kernel_rfl) (by rfl) (by intro Y hY; exact yields_row rfl rfl (HBK.out Y hY) hcz) (fun _ _ _ h => h) hHeld ?_
  try simp only [Act.put, sA, s0, s1]
  refine clH 1 5 34 #[.agg cs] rfl rfl (by kernel_rfl) (by rfl) rfl (by first | rfl | (simp [Act.eval]; done) | (simp [Act.eval, Act.put]; done)) (enter34 _ _) (R1.out _) ?_
  rintro e Y ⟨rfl, hk9⟩
  refine ⟨_, rfl, hHeld.trans (hk9.mono fun k h => Nat.lt_of_lt_of_le h hHeld.size), fun hHeld2 => ?_⟩
  replace hHeld := hHeld2
  clear hHeld2
  try simp only [Act.put, sA, s0, s1]
  refine tkH 2 6 (.bool true) rfl rfl (by kernel_rfl) (by rfl) (by intro Y hY; go_simp; try with_reducible rfl) (fun _ _ _ h => h) hHeld ?_
  try simp only [Act.put, sA, s0, s1]
  refine tkH 3 7 (.agg cs) rfl rfl (by kernel_rfl) (by rfl) (by intro Y hY; exact yields_row rfl rfl (HBK.out Y hY) hcz) (fun _ _ _ h => h) hHeld ?_
  try simp only [Act.put, sA, s0, s1]
  refine tkH 5 9 (.string s) rfl rfl (by kernel_rfl) (by rfl) (by intro Y hY; have hc := HB0.out Y hY; go_simp; try with_reducible rfl) (fun _ _ _ h => h) hHeld ?_
  try simp only [Act.put, sA, s0, s1]
  refine clH 4 8 38 #[.agg cs, .string ⟨#[115, 108, 111, 116]⟩] rfl rfl (by kernel_rfl) (by rfl) rfl (by first | rfl | (simp [Act.eval]; done) | (simp [Act.eval, Act.put]; done)) (enter38 _ _) (R2.out _ hHeld) ?_
  rintro e Y ⟨rfl, hk9⟩
  refine ⟨_, rfl, hHeld.trans (hk9.mono fun k h => Nat.lt_of_lt_of_le h hHeld.size), fun hHeld2 => ?_⟩
  replace hHeld := hHeld2
  clear hHeld2
  try simp only [Act.put, sA, s0, s1]
  cases d with
  | false =>
   refine tkH 6 10 (.bool false) rfl rfl (by kernel_rfl) (by rfl) (by intro Y hY; go_simp; try with_reducible rfl) (fun _ _ _ h => h) hHeld ?_
   try simp only [Act.put, sA, s0, s1]
   refine tkH 7 11 (.bool false) rfl rfl (by kernel_rfl) (by rfl) (by intro Y hY; go_simp; try with_reducible rfl) (fun _ _ _ h => h) hHeld ?_
   try simp only [Act.put, sA, s0, s1]
   refine tkH 8 3 (.bool false) rfl rfl (by kernel_rfl) (by rfl) (by intro Y hY; go_simp; try with_reducible rfl) (fun _ _ _ h => h) hHeld ?_
   try simp only [Act.put, sA, s0, s1]
   refine wpAnyH_done (by kernel_rfl) ?_ _
   go_wp2
   go_ret
   exact ⟨by rw [HE.out]; rfl, HK.out.trans (hHeld.mono fun k h => Nat.lt_of_lt_of_le h HK.out.size)⟩
  | true =>
   refine tkH 6 10 (.bool true) rfl rfl (by kernel_rfl) (by rfl) (by intro Y hY; go_simp; try with_reducible rfl) (fun _ _ _ h => h) hHeld ?_
   try simp only [Act.put, sA, s0, s1]
   refine tkH 7 11 (.bool true) rfl rfl (by kernel_rfl) (by rfl) (by intro Y hY; go_simp; try with_reducible rfl) (fun _ _ _ h => h) hHeld ?_
   try simp only [Act.put, sA, s0, s1]
   refine tkH 8 3 (.bool true) rfl rfl (by kernel_rfl) (by rfl) (by intro Y hY; go_simp; try with_reducible rfl) (fun _ _ _ h => h) hHeld ?_
   try simp only [Act.put, sA, s0, s1]
   refine wpAnyH_done (by kernel_rfl) ?_ _
   go_wp2
   go_ret
   exact ⟨by rw [HE.out]; rfl, HK.out.trans (hHeld.mono fun k h => Nat.lt_of_lt_of_le h HK.out.size)⟩
theorem ask_named {s : ByteArray} {b : Nat} {w : World} (hb : w.cell? ⟨b, 0, none⟩ = some (.string s)) : AskN w (.func (.func 72) #[] #[.pointer (some ⟨b, 0, none⟩)]) fun x _ => slNm s.toList x :=
 ⟨72, #[.pointer (some ⟨b, 0, none⟩)], rfl, enter72, fun x ao ac up ko kn kc X hX hl ha => slotNamed1_any x ao ac up ko kn kc s b X hl ha ((hX.cell (p := ⟨b, 0, none⟩) (World.block_lt_of_cell? w _ hb)).trans hb)⟩
theorem ask_asks {s : ByteArray} {b : Nat} {w : World} (hb : w.cell? ⟨b, 0, none⟩ = some (.string s)) : AskN w (.func (.func 102) #[] #[.pointer (some ⟨b, 0, none⟩)]) fun x _ => asksB s.toList x :=
 ⟨102, #[.pointer (some ⟨b, 0, none⟩)], rfl, enter102, fun x ao ac up ko kn kc X hX hl ha => asksFor1_any x ao ac up ko kn kc s b X hl ha ((hX.cell (p := ⟨b, 0, none⟩) (World.block_lt_of_cell? w _ hb)).trans hb)⟩
theorem ask_isIn {z : Int} {b : Nat} {w : World} (hb : w.cell? ⟨b, 0, none⟩ = some (.int .i64 z)) : AskN w (.func (.func 101) #[] #[.pointer (some ⟨b, 0, none⟩)]) fun _ up => decide (up = z) :=
 ⟨101, #[.pointer (some ⟨b, 0, none⟩)], rfl, enter101, fun x ao ac up ko kn kc X hX hl ha => isIn1_any x ao ac up ko kn kc z b X ((hX.cell (p := ⟨b, 0, none⟩) (World.block_lt_of_cell? w _ hb)).trans hb)⟩
def TellK (w : World) (v : Value) (b : Nat -> Bool) (n : Nat) : Prop :=
 ∃ f caps, v = .func (.func f) #[] caps /\ (∀ args X, (callFunc f args).run Try.prog X = .ok (.enter f args) X) /\
  ∀ i, i < n -> ∀ X, Kept (fun k => k < w.heap.size) w X -> Calls Try.prog f (#[.int .i64 (i : Int)] ++ caps) X fun e Y => e = .returned (.bool (b i)) /\ Kept (fun k => k < X.heap.size) X Y
theorem TellK.kept {w w' : World} {v : Value} {b : Nat -> Bool} {n : Nat} (h : TellK w v b n) (hk : Kept (fun k => k < w.heap.size) w w') : TellK w' v b n := by
 obtain ⟨f, caps, e, he, hc⟩ := h
 exact ⟨f, caps, e, he, fun i hi X hX => hc i hi X (hk.trans (hX.mono fun k h => Nat.lt_of_lt_of_le h hk.size))⟩
theorem byNumber1_any (K : Nat -> Prop) (p i b1 b2 : Nat) (M : Dm) (R : Nat -> List Nat) (P : Nd -> Int -> Bool) (v : Value) (X : World) (h : DX K X p M) (hW : WF M.n M.pl R) (hi : i < M.n) (hn : M.n <= 1000000) (hf : Few M)
  (h1 : X.cell? ⟨b1, 0, none⟩ = some (.pointer (some ⟨p, 0, none⟩))) (h2 : X.cell? ⟨b2, 0, none⟩ = some v) (ha : AskN X v P) :
  Calls Try.prog 90 #[.int .i64 (i : Int), .pointer (some ⟨b1, 0, none⟩), .pointer (some ⟨b2, 0, none⟩)] X fun e w' => e = .returned (.bool (P (M.nd i) (M.pl i).up)) /\ Kept (fun k => k < X.heap.size) X w' := by
 have rn := node_any K p i M R X h hW hi hn hf
 have hb2 := World.block_lt_of_cell? X _ h2
 have HB2 : Hid (b2 < X.heap.size) := hb2
 have HA : Hid (AskN X v P) := ha
 have HF : Hid ((M.nd i).attrs.length <= 1000) := hf i hi
 clear h hW hf hb2 ha
 go_enter Try.func90, Try.ntmps90
 go_wp2_with fail
 refine rn.mono ?_
 rintro e v1 ⟨ao, ac, ko, kc, rfl, hO, -, hK⟩
 obtain ⟨V, N, hV, hN, hb, hk, -⟩ := alloc_box v1 (nV (M.nd i) ao ac (M.pl i).up ko (R i).length kc)  42
 have kXV : Kept (fun k => k < X.heap.size) X V := hK.trans (hk.mono fun k h => Nat.lt_of_lt_of_le h hK.size)
 have h2' : V.cell? ⟨b2, 0, none⟩ = some v := (kXV.cell (p := ⟨b2, 0, none⟩) HB2.out).trans h2
 have haV : AtsAt (fun k => k < V.heap.size) V ao (M.nd i).attrs := (hO.atsAt (K' := fun k => k < v1.heap.size) fun g hg => (OwnZ.out hO hg).2).kept hk fun k h => Nat.lt_of_lt_of_le h hk.size
 obtain ⟨f, caps, rfl, he, hc⟩ := HA.out
 have r := hc (M.nd i) ao ac (M.pl i).up ko (R i).length kc V kXV HF.out haV
 obtain ⟨cs, hcs⟩ : ∃ cs, nV (M.nd i) ao ac (M.pl i).up ko (R i).length kc = cs := ⟨_, rfl⟩
 have hcz : cs.size = 14 := by rw [<- hcs]; rfl
 have hcI := size41 cs hcz
 have HV : Hid (v1.alloc (.cells (nV (M.nd i) ao ac (M.pl i).up ko (R i).length kc) 42) = V) := hV
 have HN : Hid (v1.heap.size = N) := hN
 have HK : Hid (Kept (fun k => k < X.heap.size) X V) := kXV
 rw [hcs] at r hb
 have HR : Hid (Calls Try.prog f (#[.agg cs] ++ caps) V fun e Y => e = .returned (.bool (P (M.nd i) (M.pl i).up)) /\ Kept (fun k => k < V.heap.size) V Y) := r
 clear rn hO hK hV hN hk kXV hc r hcs haV h2
 go_upto_region 2 with fail
 rw [HV.out, HN.out]
 clear HV HN
 go_wp2_with (refine wpList_load_row rfl 42 _ rfl N rfl 42 cs (0, 0) _ hb Try.underlying42 rfl hcI ?_)
 refine HR.out.mono ?_
 rintro e w2 ⟨rfl, hk2⟩
 have HK2 : Hid (Kept (fun k => k < X.heap.size) X w2) := HK.out.trans (hk2.mono fun k h => Nat.lt_of_lt_of_le h HK.out.size)
 clear HR hk2 he h1 h2' hb
 go_wp2
 go_ret
 exact ⟨rfl, HK2.out⟩
theorem byNumber_any (K : Nat -> Prop) (p : Nat) (M : Dm) (R : Nat -> List Nat) (P : Nd -> Int -> Bool) (v : Value) (X : World) (h : DX K X p M) (hW : WF M.n M.pl R) (hn : M.n <= 1000000) (hf : Few M) (ha : AskN X v P) :
  Calls Try.prog 57 #[.pointer (some ⟨p, 0, none⟩), v] X fun e w' => ∃ u, e = .returned u /\ TellK w' u (fun i => P (M.nd i) (M.pl i).up) M.n /\ Kept (fun k => k < X.heap.size) X w' := by
 obtain ⟨V1, N1, hV1, hN1, hb1, hk1, hs1⟩ := alloc_box X #[.pointer (some ⟨p, 0, none⟩)]  24
 obtain ⟨V2, N2, hV2, hN2, hb2, hk2, -⟩ := alloc_box V1 #[v]  61
 have k12 : Kept (fun k => k < X.heap.size) X V2 := hk1.trans (hk2.mono fun k h => Nat.lt_of_lt_of_le h hk1.size)
 have c1 : V2.cell? ⟨N1, 0, none⟩ = some (.pointer (some ⟨p, 0, none⟩)) := (hk2.cell (p := ⟨N1, 0, none⟩) (lt_block hb1)).trans (by rw [cell_block hb1]; rfl)
 have c2 : V2.cell? ⟨N2, 0, none⟩ = some v := by rw [cell_block hb2]; rfl
 have HT : Hid (TellK V2 (.func (.func 90) #[] #[.pointer (some ⟨N1, 0, none⟩), .pointer (some ⟨N2, 0, none⟩)]) (fun i => P (M.nd i) (M.pl i).up) M.n /\ Kept (fun k => k < X.heap.size) X V2) := by
  refine ⟨⟨90, _, rfl, enter90, fun i hi Y hY => ?_⟩, k12⟩
  have kY : Kept (fun k => k < X.heap.size) X Y := k12.trans (hY.mono fun k h => Nat.lt_of_lt_of_le h k12.size)
  exact byNumber1_any K p i N1 N2 M R P v Y (h.kept kY) hW hi hn hf ((hY.cell (p := ⟨N1, 0, none⟩) (World.block_lt_of_cell? V2 _ c1)).trans c1) ((hY.cell (p := ⟨N2, 0, none⟩) (World.block_lt_of_cell? V2 _ c2)).trans c2) (ha.kept kY)
 have HV1 : Hid (X.alloc (.cells #[.pointer (some ⟨p, 0, none⟩)] 24) = V1) := hV1
 have HN1 : Hid (X.heap.size = N1) := hN1
 have HV2 : Hid (V1.alloc (.cells #[v] 61) = V2) := hV2
 have HN2 : Hid (N1 + 1 = N2) := by rw [<- hN2, hs1, hN1]; exact rfl
 obtain ⟨f, caps, rfl, -⟩ := ha
 clear h hW hf hV1 hN1 hb1 hk1 hs1 hV2 hN2 hb2 hk2 k12 c1 c2
 go_enter Try.func57, Try.ntmps57
 go_upto_region 1 with fail
 rw [HV1.out, HN1.out, HV2.out, HN2.out]
 clear HV1 HN1 HV2 HN2
 go_wp2
 go_ret
 exact ⟨_, rfl, HT.out.1, HT.out.2⟩
end
section
open Go.RowKit
inductive Up (n : Nat) (F : Nat -> List Nat) (a : Nat) : Nat -> Prop
 | here : Up n F a a
 | up {x y : Nat} : y < n -> x ∈ F y -> Up n F a y -> Up n F a x
structure Only (n : Nat) (F : Nat -> List Nat) (rk : Nat -> Nat) : Prop where
 falls : Falls n F rk
 one : ∀ i j k, i < n -> j < n -> k ∈ F i -> k ∈ F j -> i = j
 nd : ∀ i, i < n -> (F i).Nodup
section
variable {n : Nat} {F : Nat -> List Nat} {rk : Nat -> Nat}
theorem Up.low (h : Falls n F rk) {a x : Nat} (hu : Up n F a x) : a = x \/ rk a < rk x := by
 induction hu with
 | here => exact .inl rfl
 | up hy hm _ ih =>
  have := (h _ hy _ hm).2
  rcases ih with rfl | ih
  ·exact .inr this
  ·exact .inr (Nat.lt_trans ih this)
theorem Up.trans {a b x : Nat} (h : Up n F a b) (k : Up n F b x) : Up n F a x := by
 induction k with
 | here => exact h
 | up hy hm _ ih => exact .up hy hm ih
theorem Up.lin (h : Only n F rk) {a b x : Nat} (ha : Up n F a x) : Up n F b x -> Up n F a b \/ Up n F b a := by
 induction ha with
 | here => exact fun hb => .inr hb
 | @up x y hy hm h1 ih =>
  intro hb
  cases hb with
  | here => exact .inl (.up hy hm h1)
  | @up _ z hz hm' h2 =>
   have := h.one y z x hy hz hm hm'
   subst this
   exact ih h2
theorem mem_trF (h : Falls n F rk) : ∀ (f i : Nat), i < n -> ∀ x ∈ trF F f i, Up n F i x
 | 0, i, hi, x, hx => by
  rcases List.mem_singleton.1 hx with rfl
  exact .here
 | f + 1, i, hi, x, hx => by
  rcases List.mem_cons.1 hx with rfl | hx
  ·exact .here
  ·obtain ⟨m, hm, hx⟩ := List.mem_flatMap.1 hx
   exact Up.trans (.up hi hm .here) (mem_trF h f m (h i hi m hm).1 x hx)
theorem mem_tr (h : Falls n F rk) {i x : Nat} (hi : i < n) : x ∈ tr n F i ↔ Up n F i x := by
 refine ⟨mem_trF h n i hi x, fun hu => ?_⟩
 induction hu with
 | here => rw [tr_eq h hi]; exact List.mem_cons_self ..
 | @up x y hy hm _ ih =>
  have key : ∀ (f i : Nat), i < n -> dn n rk i < f -> y ∈ tr n F i -> x ∈ tr n F i := by
   intro f
   induction f with
   | zero => exact fun i _ h => absurd h (Nat.not_lt_zero _)
   | succ f ihf =>
    intro i hi hf hyi
    rw [tr_eq h hi] at hyi ⊢
    rcases List.mem_cons.1 hyi with rfl | hyi
    ·refine List.mem_cons_of_mem _ (List.mem_flatMap.2 ⟨x, hm, ?_⟩)
     rw [tr_eq h (h y hy x hm).1]
     exact List.mem_cons_self ..
    ·obtain ⟨m, hmi, hy'⟩ := List.mem_flatMap.1 hyi
     have hmn := h i hi m hmi
     exact List.mem_cons_of_mem _ (List.mem_flatMap.2 ⟨m, hmi, ihf m hmn.1 (by have := dn_lt hmn.1 hmn.2; omega) hy'⟩)
  exact key _ i hi (Nat.lt_succ_self _) ih
theorem nodup_flatMap {f : Nat -> List Nat} : ∀ {l : List Nat}, l.Nodup -> (∀ x ∈ l, (f x).Nodup) -> (∀ x ∈ l, ∀ y ∈ l, x ≠ y -> ∀ z, z ∈ f x -> z ∉ f y) -> (l.flatMap f).Nodup
 | [], _, _, _ => List.nodup_nil
 | x :: r, hn, hf, hd => by
  have hn' := List.nodup_cons.1 hn
  rw [List.flatMap_cons, List.nodup_append]
  refine ⟨hf x (List.mem_cons_self ..), nodup_flatMap hn'.2 (fun y hy => hf y (List.mem_cons_of_mem _ hy)) (fun a ha b hb => hd a (List.mem_cons_of_mem _ ha) b (List.mem_cons_of_mem _ hb)), fun a ha b hb e => ?_⟩
  subst e
  obtain ⟨y, hy, hz⟩ := List.mem_flatMap.1 hb
  exact hd x (List.mem_cons_self ..) y (List.mem_cons_of_mem _ hy) (fun e => hn'.1 (e ▸ hy)) a ha hz
theorem tr_nodup (h : Only n F rk) : ∀ (f i : Nat), i < n -> dn n rk i < f -> (tr n F i).Nodup
 | 0, i, _, hf => absurd hf (Nat.not_lt_zero _)
 | f + 1, i, hi, hf => by
  rw [tr_eq h.falls hi]
  refine List.nodup_cons.2 ⟨fun hm => ?_, nodup_flatMap (h.nd i hi) (fun x hx => ?_) (fun x hx y hy hxy z hz1 hz2 => ?_)⟩
  ·obtain ⟨k, hk, hm⟩ := List.mem_flatMap.1 hm
   have hkn := h.falls i hi k hk
   rcases ((mem_tr h.falls hkn.1).1 hm).low h.falls with e | e
   ·rw [e] at hkn; omega
   ·omega
  ·have hkn := h.falls i hi x hx
   exact tr_nodup h f x hkn.1 (by have := dn_lt hkn.1 hkn.2; omega)
  ·have hxn := h.falls i hi x hx
   have hyn := h.falls i hi y hy
   have u1 := (mem_tr h.falls hxn.1).1 hz1
   have u2 := (mem_tr h.falls hyn.1).1 hz2
   have no : ∀ a b, a ∈ F i -> b ∈ F i -> a ≠ b -> ¬ Up n F a b := fun a b ha hb hab hu => by
    cases hu with
    | here => exact hab rfl
    | @up _ c hc hm hu =>
     have := h.one i c b hi hc hb hm
     subst this
     have := (h.falls i hi a ha).2
     rcases hu.low h.falls with e | e
     ·rw [e] at this; omega
     ·omega
   rcases Up.lin h u1 u2 with q | q
   ·exact no x y hx hy hxy q
   ·exact no y x hy hx (fun e => hxy e.symm) q
theorem tr_len (h : Only n F rk) {i : Nat} (hi : i < n) : (tr n F i).length <= n :=
 nodup_le n _ (tr_nodup h _ i hi (Nat.lt_succ_self _)) (fun x hx => tr_lt h.falls n i hi x hx)
end
section
variable {M : Dm} {R G : Nat -> List Nat} {rk : Nat -> Nat}
theorem Good.only (h : Good M R rk) : Only M.n R rk := ⟨h.falls, fun i j k hi hj h1 h2 => h.wf.one hi hj h1 h2, fun i hi => h.wf.nodup i hi⟩
theorem fwd_mem {i k : Nat} : k ∈ fwd M R i ↔ k ∈ R i \/ ((M.nd i).shadow ≠ -1 /\ k = (M.nd i).shadow.toNat) := by
 unfold fwd
 by_cases c : (M.nd i).shadow = -1
 ·rw [if_pos c]
  exact ⟨.inl, fun h => h.elim id (fun h => absurd c h.1)⟩
 ·rw [if_neg c, List.mem_cons]
  exact ⟨fun h => h.elim (fun h => .inr ⟨c, h⟩) .inl, fun h => h.elim .inr (fun h => .inl h.2)⟩
theorem Inv.shd (h : Inv M R G rk) {i : Nat} (hi : i < M.n) (hs : (M.nd i).shadow ≠ -1) : ∃ s : Nat, (M.nd i).shadow = (s : Int) /\ s < M.n /\ (M.nd s).host = (i : Int) /\ (M.pl s).up = -1 := by
 rcases h.core.shad i hi with e | ⟨s, hsn, e, _⟩
 ·exact absurd e hs
 ·have := h.shadow hi e
  exact ⟨s, e, hsn, this.2.2.1, this.2.2.2.1⟩
theorem Inv.only (h : Inv M R G rk) : Only M.n (fwd M R) rk := by
 refine ⟨h.falls, fun i j k hi hj h1 h2 => ?_, fun i hi => ?_⟩
 ·rcases fwd_mem.1 h1 with a1 | ⟨a1, a2⟩ <;> rcases fwd_mem.1 h2 with b1 | ⟨b1, b2⟩
  ·exact h.good.wf.one hi hj a1 b1
  ·obtain ⟨s, e, _, _, hu⟩ := h.shd hj b1
   rw [e, Int.toNat_natCast] at b2
   subst b2
   have := (h.good.kid hi a1).2.1
   omega
  ·obtain ⟨s, e, _, _, hu⟩ := h.shd hi a1
   rw [e, Int.toNat_natCast] at a2
   subst a2
   have := (h.good.kid hj b1).2.1
   omega
  ·obtain ⟨s, e, _, hh, _⟩ := h.shd hi a1
   obtain ⟨s', e', _, hh', _⟩ := h.shd hj b1
   rw [e, Int.toNat_natCast] at a2
   rw [e', Int.toNat_natCast] at b2
   subst a2
   subst b2
   omega
 ·unfold fwd
  by_cases c : (M.nd i).shadow = -1
  ·rw [if_pos c]; exact h.good.wf.nodup i hi
  ·rw [if_neg c]
   refine List.nodup_cons.2 ⟨fun hm => ?_, h.good.wf.nodup i hi⟩
   obtain ⟨s, e, _, _, hu⟩ := h.shd hi c
   rw [e, Int.toNat_natCast] at hm
   have := (h.good.kid hi hm).2.1
   omega
end
end
section
open Classical in
noncomputable def ofZ (M : Dm) (i : Int) : Int := if h : ∃ z, 0 <= i /\ i < (M.n : Int) /\ OfOf M i.toNat z then h.choose else -1
noncomputable def handZ (M : Dm) (i s : Nat) : Int := if ofZ M (M.gf i).up = (s : Int) then (M.gf i).up else -1
def fstS (M : Dm) (R : Nat -> List Nat) (nm : List UInt8) (s : Nat) : Int := fstO (fun k => slNm nm (M.nd k)) (tr M.n R s)
noncomputable def findZ (M : Dm) (R : Nat -> List Nat) (i : Nat) : Int :=
 if showB (M.nd i) = false \/ (M.pl i).up = -1 \/ (M.nd (M.pl i).up.toNat).shadow = -1 then -1
 else if (M.nd (M.nd (M.pl i).up.toNat).shadow.toNat).fl.b = true then handZ M i (M.nd (M.pl i).up.toNat).shadow.toNat
 else fstS M R (atV slotN (M.nd i).attrs) (M.nd (M.pl i).up.toNat).shadow.toNat
def shwL (M : Dm) (R G : Nat -> List Nat) (i s : Nat) : List Nat :=
 if (M.nd s).fl.b = true then (G i).filter fun k => decide ((M.pl k).up = (M.nd s).host)
 else if fstS M R (atV nameN (M.nd i).attrs) s = (i : Int) then (R (M.nd s).host.toNat).filter fun k => asksB (atV nameN (M.nd i).attrs) (M.nd k) else []
noncomputable def asgL (M : Dm) (R G : Nat -> List Nat) (i : Nat) : List Nat :=
 if isSl (M.nd i) = false \/ ofZ M (i : Int) = -1 then [] else shwL M R G i (ofZ M (i : Int)).toNat
section
variable {M : Dm} {R G : Nat -> List Nat} {rk : Nat -> Nat}
theorem ofZ_eq {i : Nat} {z : Int} (hi : i < M.n) (h : OfOf M i z) : ofZ M (i : Int) = z := by
 have hx : ∃ z, 0 <= (i : Int) /\ (i : Int) < (M.n : Int) /\ OfOf M (i : Int).toNat z := ⟨z, by omega, by omega, by rw [Int.toNat_natCast]; exact h⟩
 unfold ofZ
 rw [dif_pos hx]
 exact OfOf.one (M := M) (i := i) hx.choose_spec.2.2 h
theorem ofZ_no {i : Int} (h : i < 0 \/ (M.n : Int) <= i) : ofZ M i = -1 := by
 unfold ofZ
 rw [dif_neg]
 rintro ⟨z, h1, h2, _⟩
 omega
theorem Inv.ofz (h : Inv M R G rk) {i : Nat} (hi : i < M.n) : (∃ t : Nat, t < M.n /\ TopOf M i t /\ ofZ M (i : Int) = (t : Int) /\ (M.nd t).kind = 5) \/ (∃ t : Nat, t < M.n /\ TopOf M i t /\ ofZ M (i : Int) = -1 /\ (M.nd t).kind ≠ 5) := by
 obtain ⟨t, ht, hT, _⟩ := h.good.top (rk i + 1) i (Nat.lt_succ_self _) hi
 by_cases c : (M.nd t).kind = 5
 ·exact .inl ⟨t, ht, hT, ofZ_eq hi (.yes hT c), c⟩
 ·exact .inr ⟨t, ht, hT, ofZ_eq hi (.no hT c), c⟩
theorem fstO_some {P : Nat -> Bool} {l : List Nat} {k : Nat} (h : fstO P l = (k : Int)) : k ∈ l /\ P k = true := by
 unfold fstO at h
 cases e : l.find? P with
 | none => rw [e] at h; have h' : (-1 : Int) = (k : Int) := h; omega
 | some x =>
  rw [e] at h
  have h' : (x : Int) = (k : Int) := h
  have : x = k := by omega
  subst this
  exact ⟨List.mem_of_find?_eq_some e, List.find?_some e⟩
theorem fstO_or (P : Nat -> Bool) (l : List Nat) : (fstO P l = -1 /\ ∀ x ∈ l, P x = false) \/ ∃ k ∈ l, P k = true /\ fstO P l = (k : Int) := by
 unfold fstO
 cases e : l.find? P with
 | none => exact .inl ⟨rfl, fun x hx => by have := List.find?_eq_none.1 e x hx; simpa using this⟩
 | some x => exact .inr ⟨x, List.mem_of_find?_eq_some e, List.find?_some e, rfl⟩
theorem slNm_iff {nm : List UInt8} {x : Nd} : slNm nm x = true ↔ x.kind = 1 /\ x.name = slotN /\ atV nameN x.attrs = nm := by
 unfold slNm isSl
 simp [and_assoc]
theorem isSl_iff {x : Nd} : isSl x = true ↔ x.kind = 1 /\ x.name = slotN := by
 unfold isSl
 simp
theorem showB_iff {x : Nd} : showB x = true ↔ x.kind = 1 \/ x.kind = 2 := by
 unfold showB
 simp
theorem asksB_iff {nm : List UInt8} {x : Nd} : asksB nm x = true ↔ showB x = true /\ atV slotN x.attrs = nm := by
 unfold asksB
 simp
theorem up_topR (h : Good M R rk) {i k : Nat} (hu : Up M.n R i k) : ∀ {t}, TopOf M i t -> TopOf M k t := by
 induction hu with
 | here => exact fun h => h
 | @up x y hy hm _ ih => exact fun hT => .up (h.kid hy hm).2.1 (ih hT)
theorem top_upR (h : Good M R rk) {i t : Nat} (hT : TopOf M i t) : i < M.n -> Up M.n R t i := by
 induction hT with
 | here _ => exact fun _ => .here
 | @up k m t e _ ih =>
  intro hk
  obtain ⟨hm, _⟩ := h.rk_up hk e
  rcases h.wf.inn k hk with e' | ⟨u, hu, e', hmem⟩
  ·omega
  ·have : u = m := by omega
   subst this
   exact .up hm hmem (ih hm)
theorem Inv.in_tree (h : Inv M R G rk) {s x : Nat} (hs : s < M.n) (hu : (M.pl s).up = -1) (hx : x < M.n) : x ∈ tr M.n R s ↔ TopOf M x s := by
 rw [mem_tr h.good.falls hs]
 exact ⟨fun hh => up_topR h.good hh (.here hu), fun hh => top_upR h.good hh hx⟩
theorem Inv.of_tree (h : Inv M R G rk) {s x : Nat} (hs : s < M.n) (hk : (M.nd s).kind = 5) (hx : x < M.n) : x ∈ tr M.n R s ↔ ofZ M (x : Int) = (s : Int) := by
 obtain ⟨i, hi, _, _, _, hu⟩ := h.host hs hk
 rw [h.in_tree hs hu hx]
 constructor
 ·exact fun hh => ofZ_eq hx (.yes hh hk)
 ·intro hh
  rcases h.ofz hx with ⟨t, _, hT, e, _⟩ | ⟨t, _, hT, e, _⟩
  ·have : t = s := by omega
   exact this ▸ hT
  ·omega
inductive FindC (M : Dm) (R G : Nat -> List Nat) (i : Nat) (z : Int) : Prop
 | none : z = -1 -> (showB (M.nd i) = false \/ (M.pl i).up = -1 \/ ∃ h : Nat, h < M.n /\ (M.pl i).up = (h : Int) /\ (M.nd h).shadow = -1) -> FindC M R G i z
 | hand (h s : Nat) : h < M.n -> s < M.n -> showB (M.nd i) = true -> (M.pl i).up = (h : Int) -> (M.nd h).shadow = (s : Int) -> (M.nd s).fl.b = true -> z = handZ M i s -> FindC M R G i z
 | name (h s : Nat) : h < M.n -> s < M.n -> showB (M.nd i) = true -> (M.pl i).up = (h : Int) -> (M.nd h).shadow = (s : Int) -> (M.nd s).fl.b = false -> z = fstS M R (atV slotN (M.nd i).attrs) s -> FindC M R G i z
theorem Inv.ups' (h : Inv M R G rk) {i : Nat} (hi : i < M.n) : (M.pl i).up = -1 \/ ∃ u : Nat, u < M.n /\ (M.pl i).up = (u : Int) := by
 rcases h.good.wf.inn i hi with h0 | ⟨u, hu, e, _⟩
 ·exact .inl h0
 ·exact .inr ⟨u, hu, e⟩
theorem Inv.findC (h : Inv M R G rk) {i : Nat} (hi : i < M.n) : FindC M R G i (findZ M R i) := by
 unfold findZ
 by_cases c : showB (M.nd i) = false
 ·rw [if_pos (.inl c)]; exact .none rfl (.inl c)
 rcases h.ups' hi with hu | ⟨u, hu, e⟩
 ·rw [if_pos (.inr (.inl hu))]; exact .none rfl (.inr (.inl hu))
 rw [e, Int.toNat_natCast]
 rcases h.core.shad u hu with hs | ⟨s, hs, es, _⟩
 ·rw [if_pos (.inr (.inr hs))]; exact .none rfl (.inr (.inr ⟨u, hu, e, hs⟩))
 rw [if_neg (by rw [es]; rintro (h | h | h); exact c h; omega; omega), es, Int.toNat_natCast]
 have c' : showB (M.nd i) = true := by simpa using c
 cases b : (M.nd s).fl.b with
 | true => rw [if_pos rfl]; exact .hand u s hu hs c' e es b rfl
 | false => rw [if_neg (by simp)]; exact .name u s hu hs c' e es b rfl
theorem Inv.fst_slot (h : Inv M R G rk) {s k : Nat} {nm : List UInt8} (hs : s < M.n) (hk5 : (M.nd s).kind = 5) (e : fstS M R nm s = (k : Int)) : k < M.n /\ isSl (M.nd k) = true /\ ofZ M (k : Int) = (s : Int) /\ atV nameN (M.nd k).attrs = nm := by
 obtain ⟨h1, h2⟩ := fstO_some e
 have hk := tr_lt h.good.falls _ s hs k h1
 have h3 := slNm_iff.1 h2
 exact ⟨hk, isSl_iff.2 ⟨h3.1, h3.2.1⟩, (h.of_tree hs hk5 hk).1 h1, h3.2.2⟩
theorem Inv.gave (h : Inv M R G rk) {i u : Nat} (hi : i < M.n) (hu : u < M.n) : i ∈ G u ↔ (M.gf i).up = (u : Int) := by
 constructor
 ·exact fun hm => h.gw.up hu hm
 ·intro e
  rcases h.gw.inn i hi with h0 | ⟨v, hv, e', hm⟩
  ·omega
  ·have : v = u := by omega
   exact this ▸ hm
theorem Inv.find_slot (h : Inv M R G rk) {i k : Nat} (hi : i < M.n) (e : findZ M R i = (k : Int)) : k < M.n /\ isSl (M.nd k) = true /\ showB (M.nd i) = true /\ ∃ u s : Nat, u < M.n /\ s < M.n /\ (M.pl i).up = (u : Int) /\ (M.nd u).shadow = (s : Int) /\ ofZ M (k : Int) = (s : Int) := by
 rcases h.findC hi with ⟨e', _⟩ | ⟨u, s, hu, hs, hsh, e1, e2, hb, e'⟩ | ⟨u, s, hu, hs, hsh, e1, e2, hb, e'⟩
 ·omega
 ·unfold handZ at e'
  by_cases c : ofZ M (M.gf i).up = (s : Int)
  ·rw [if_pos c] at e'
   rw [e] at e'
   rw [<- e'] at c
   have hk : k < M.n := by
    apply Nat.lt_of_not_le
    intro hn
    rw [ofZ_no (.inr (by omega))] at c
    omega
   have hm := (h.gave hi hk).2 e'.symm
   have hg := h.gft k hk i hm
   exact ⟨hk, isSl_iff.2 hg.2, hsh, u, s, hu, hs, e1, e2, c⟩
  ·rw [if_neg c] at e'; omega
 ·have h5 := (h.shadow hu e2).2.1
  obtain ⟨h1, h2, h3, _⟩ := h.fst_slot hs h5 (e'.symm.trans e)
  exact ⟨h1, h2, hsh, u, s, hu, hs, e1, e2, h3⟩
theorem Inv.asg (h : Inv M R G rk) {i k : Nat} (hi : i < M.n) (hk : k < M.n) : k ∈ asgL M R G i ↔ findZ M R k = (i : Int) := by
 constructor
 ·intro hm
  unfold asgL at hm
  by_cases c : isSl (M.nd i) = false \/ ofZ M (i : Int) = -1
  ·rw [if_pos c] at hm; cases hm
  rw [if_neg c] at hm
  rcases h.ofz hi with ⟨s, hs, hT, e, h5⟩ | ⟨t, ht, hT, e, _⟩
  ·rw [e, Int.toNat_natCast] at hm
   obtain ⟨u, hu, eh, esh, _⟩ := h.host hs h5
   unfold shwL at hm
   rw [eh] at hm
   cases b : (M.nd s).fl.b with
   | true =>
    rw [b, if_pos rfl] at hm
    obtain ⟨m1, m2⟩ := List.mem_filter.1 hm
    have hup : (M.pl k).up = (u : Int) := of_decide_eq_true m2
    have hgv := (h.gave hk hi).1 m1
    have hsh : showB (M.nd k) = true := showB_iff.2 (h.gft i hi k m1).1
    unfold findZ
    rw [hup, Int.toNat_natCast, esh, Int.toNat_natCast, if_neg (by rw [hsh]; rintro (h | h | h); cases h; omega; omega), b, if_pos rfl]
    unfold handZ
    rw [hgv, e, if_pos rfl]
   | false =>
    rw [b, if_neg (by simp), Int.toNat_natCast] at hm
    by_cases cf : fstS M R (atV nameN (M.nd i).attrs) s = (i : Int)
    ·rw [if_pos cf] at hm
     obtain ⟨m1, m2⟩ := List.mem_filter.1 hm
     obtain ⟨a1, a2⟩ := asksB_iff.1 m2
     have hup := (h.good.kid hu m1).2.1
     unfold findZ
     rw [hup, Int.toNat_natCast, esh, Int.toNat_natCast, if_neg (by rw [a1]; rintro (h | h | h); cases h; omega; omega), b, if_neg (by simp), a2]
     exact cf
    ·rw [if_neg cf] at hm; cases hm
  ·exact absurd (.inr e) c
 ·intro e
  obtain ⟨_, hsl, hsh, u, s, hu, hs, e1, e2, ho⟩ := h.find_slot hk e
  unfold asgL
  rw [if_neg (by rw [hsl, ho]; rintro (h | h); cases h; omega), ho, Int.toNat_natCast]
  unfold shwL
  have hho := (h.shadow hu e2).2.2.1
  rw [hho, Int.toNat_natCast]
  have hmem : k ∈ R u := by
   rcases h.good.wf.inn k hk with h0 | ⟨v, hv, e', hm⟩
   ·omega
   ·have : v = u := by omega
    exact this ▸ hm
  unfold findZ at e
  rw [e1, Int.toNat_natCast, e2, Int.toNat_natCast, if_neg (by rw [hsh]; rintro (h | h | h); cases h; omega; omega)] at e
  cases b : (M.nd s).fl.b with
  | true =>
   rw [b, if_pos rfl] at e
   rw [if_pos rfl]
   unfold handZ at e
   by_cases c : ofZ M (M.gf k).up = (s : Int)
   ·rw [if_pos c] at e
    exact List.mem_filter.2 ⟨(h.gave hk hi).2 e, decide_eq_true e1⟩
   ·rw [if_neg c] at e; omega
  | false =>
   rw [b, if_neg (by simp)] at e
   rw [if_neg (by simp)]
   obtain ⟨_, _, _, hn⟩ := h.fst_slot hs (h.shadow hu e2).2.1 e
   rw [hn, if_pos e]
   exact List.mem_filter.2 ⟨hmem, asksB_iff.2 ⟨hsh, rfl⟩⟩
theorem Inv.asg_lt (h : Inv M R G rk) {i k : Nat} (hi : i < M.n) (hm : k ∈ asgL M R G i) : k < M.n := by
 unfold asgL at hm
 by_cases c : isSl (M.nd i) = false \/ ofZ M (i : Int) = -1
 ·rw [if_pos c] at hm; cases hm
 rw [if_neg c] at hm
 rcases h.ofz hi with ⟨s, hs, hT, e, h5⟩ | ⟨t, ht, hT, e, _⟩
 ·rw [e, Int.toNat_natCast] at hm
  obtain ⟨u, hu, eh, esh, _⟩ := h.host hs h5
  unfold shwL at hm
  rw [eh] at hm
  cases b : (M.nd s).fl.b with
  | true =>
   rw [b, if_pos rfl] at hm
   exact h.gw.lt i hi k (List.mem_filter.1 hm).1
  | false =>
   rw [b, if_neg (by simp), Int.toNat_natCast] at hm
   split at hm
   ·exact (h.good.kid hu (List.mem_filter.1 hm).1).1
   ·cases hm
 ·exact absurd (.inr e) c
theorem Inv.asg_nd (h : Inv M R G rk) {i : Nat} (hi : i < M.n) : (asgL M R G i).Nodup := by
 unfold asgL
 split
 ·exact List.nodup_nil
 ·unfold shwL
  split
  ·exact (h.gw.nodup i hi).filter _
  ·split
   ·rename_i c1 c2 c3
    rcases h.ofz hi with ⟨s, hs, hT, e, h5⟩ | ⟨t, ht, hT, e, _⟩
    ·rw [e, Int.toNat_natCast]
     obtain ⟨u, hu, eh, _⟩ := h.host hs h5
     rw [eh, Int.toNat_natCast]
     exact (h.good.wf.nodup u hu).filter _
    ·exact absurd (.inr e) c1
   ·exact List.nodup_nil
end
end
end Go.Proofs.Ytljnjdckhkglfaa
