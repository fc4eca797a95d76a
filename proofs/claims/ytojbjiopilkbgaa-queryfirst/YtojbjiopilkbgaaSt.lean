/-
  An attribute that is set.
-/
import Derived.Test.YtojbjiopilkbgaaP13
import Derived.Test.YtojbjiopilkbgaaP12
import Derived.Deep.QuietTactic
import Derived.BigQuiet
import Derived.Deep.LoopGhost
namespace Go.Proofs.Ytojbjiopilkbgaa
open Go.RowKit
set_option linter.unusedVariables false
set_option maxRecDepth 100000
set_option maxHeartbeats 4000000
theorem enter54 (args : Array Value) (X : World) : (callFunc 54 args).run Try.prog X = .ok (.enter 54 args) X := entersE Try.func54 (by kernel_rfl) (c := _) rfl args X
theorem named_any (s : ByteArray) (w : World) :
  Calls Try.prog 42 #[.string s] w fun e w' => e = .returned (.func (.func 54) #[] #[.pointer (some ⟨w.heap.size, 0, none⟩)]) /\ w' = w.alloc (.cells #[.string s] 9) := by
 go_enter Try.func42, Try.ntmps42
 go_wp2
 go_ret
 exact ⟨rfl, rfl⟩
theorem named1_any (a v s : ByteArray) (b : Nat) (w : World) (hb : w.cell? ⟨b, 0, none⟩ = some (.string s)) :
  Calls Try.prog 54 #[.agg #[.string a, .string v], .pointer (some ⟨b, 0, none⟩)] w fun e w' => e = .returned (.bool (a.toList == s.toList)) /\ Kept (fun k => k < w.heap.size) w w' := by
 obtain ⟨W, hW⟩ : ∃ W, w.alloc (.cells #[.string a, .string v] 39) = W := ⟨_, rfl⟩
 have kW : Kept (fun k => k < w.heap.size) w W := by rw [<- hW]; exact (Kept.refl _ w).alloc (fun _ h => h) _
 have hbl : b < w.heap.size := World.block_lt_of_cell? w _ hb
 have hbW : W.cell? ⟨b, 0, none⟩ = some (.string s) := (kW.cell (p := ⟨b, 0, none⟩) hbl).trans hb
 have h0 : W.cell? ⟨w.heap.size, 0, none⟩ = some (.string a) := by rw [<- hW, cell_block (heap_alloc_new w _)]; rfl
 obtain ⟨q, hq⟩ : ∃ q, (a.toList == s.toList) = q := ⟨_, rfl⟩
 rw [hq]
 have HW : Hid (w.alloc (.cells #[.string a, .string v] 39) = W) := hW
 have HK : Hid (Kept (fun k => k < w.heap.size) w W) := kW
 obtain ⟨N, hN⟩ : ∃ N, w.heap.size = N := ⟨_, rfl⟩
 rw [hN] at h0
 have HN : Hid (w.heap.size = N) := hN
 clear hW kW hb hbl hN
 cases q
 all_goals
  go_enter Try.func54, Try.ntmps54
  go_upto_region 1 with fail
  rw [HW.out, HN.out]
  go_wp2
  go_ret
  exact ⟨rfl, HK.out⟩
theorem indexA_any (l : List Atr) (n : Nat) (hln : l.length = n) (hn : n <= 1000000) (a : Option Addr) (cap b : Nat) (s : ByteArray) (w : World) (hr : AtsAt (fun k => k < w.heap.size) w a l) (hb : w.cell? ⟨b, 0, none⟩ = some (.string s)) :
  Calls Try.prog 41 #[.slice a n cap, .func (.func 54) #[] #[.pointer (some ⟨b, 0, none⟩)]] w fun e w' => ((∃ k, ∃ h : k < l.length, e = .returned (.int .i64 (k : Int)) /\ l[k].name = s.toList /\ ∀ x ∈ l.take k, x.name ≠ s.toList) \/ (e = .returned (.int .i64 (-1)) /\ ∀ x ∈ l, x.name ≠ s.toList)) /\ Kept (fun k => k < w.heap.size) w w' := by
 have he := enter54
 have hbl : b < w.heap.size := World.block_lt_of_cell? w _ hb
 have HR : Hid (AtsAt (fun k => k < w.heap.size) w a l) := hr
 have HL : Hid (l.length = n) := hln
 have HB : Hid (w.cell? ⟨b, 0, none⟩ = some (.string s)) := hb
 have HBL : Hid (b < w.heap.size) := hbl
 clear hr hln hb hbl
 go_enter Try.func41, Try.ntmps41
 go_upto_region 2 with fail
 go_loopg [8] n (fun gh v wr => ∃ j : Nat, gh = n - j /\ j <= n /\ v = .int .i64 (j : Int) /\ (∀ x ∈ l.take j, x.name ≠ s.toList) /\ Kept (fun k => k < w.heap.size) w wr)
 case atStart => exact ⟨0, rfl, Nat.zero_le _, rfl, fun x hx => by simp at hx, Kept.refl _ _⟩
 case round =>
  obtain ⟨j, hgj, hj, rfl, hno, hK⟩ := hrel
  by_cases hlt : j < n
  ·have hl : j < l.length := by rw [HL.out]; exact hlt
   obtain ⟨g, o, rfl, hg, c0, c1⟩ := HR.out j hl
   have d0 : wr.cell? ⟨g, o + j * 2, none⟩ = some (sv l[j].name) := (hK.cell (p := ⟨g, o + j * 2, none⟩) hg).trans c0
   have d1 : wr.cell? ⟨g, o + j * 2 + 1, none⟩ = some (sv l[j].value) := (hK.cell (p := ⟨g, o + j * 2 + 1, none⟩) hg).trans c1
   have r := named1_any ⟨l[j].name.toArray⟩ ⟨l[j].value.toArray⟩ s b wr ((hK.cell (p := ⟨b, 0, none⟩) HBL.out).trans HB.out)
   have HJ : Hid (l.take (j + 1) = l.take j ++ [l[j]]) := by rw [List.take_add_one, List.getElem?_eq_getElem hl]; rfl
   have HNO : Hid (∀ x ∈ l.take j, x.name ≠ s.toList) := hno
   have HK : Hid (Kept (fun k => k < w.heap.size) w wr) := hK
   rw [ByteArray.toList_eq] at r
   obtain ⟨q, hq⟩ : ∃ q, (l[j].name.toArray.toList == s.toList) = q := ⟨_, rfl⟩
   have hq' : (l[j].name == s.toList) = q := hq
   have HRR : Hid (Calls Try.prog 54 #[.agg #[.string ⟨l[j].name.toArray⟩, .string ⟨l[j].value.toArray⟩], .pointer (some ⟨b, 0, none⟩)] wr fun e w' => e = .returned (.bool q) /\ Kept (fun k => k < wr.heap.size) wr w') := by rw [<- hq]; exact r
   have HQ : Hid ((l[j].name == s.toList) = q) := hq'
   clear c0 c1 r hno hK hq hq'
   unfold sv at d0 d1
   go_wp2_with fail
   refine HRR.out.mono ?_
   rintro e w2 ⟨rfl, hk2⟩
   have HK2 : Hid (Kept (fun k => k < w.heap.size) w w2) := HK.out.trans (hk2.mono fun k h => Nat.lt_of_lt_of_le h HK.out.size)
   clear HRR d0 d1 hk2 he
   cases q with
   | true =>
    go_wp2
    go_ret
    exact ⟨.inl ⟨j, hl, rfl, by simpa using HQ.out, HNO.out⟩, HK2.out⟩
   | false =>
    go_wp2
    go_roundg (n - (j + 1))
    case rel =>
     refine ⟨j + 1, rfl, by omega, by go_num, fun x hx => ?_, HK2.out⟩
     rw [HJ.out] at hx
     rcases List.mem_append.1 hx with h | h
     ·exact HNO.out x h
     ·rw [List.mem_singleton.1 h]; simpa using HQ.out
    case measure => omega
  ·have hjn : n = j := by omega
   subst hjn
   have HNO : Hid (∀ x ∈ l, x.name ≠ s.toList) := fun x hx => hno x (by rw [List.take_of_length_le (by rw [HL.out]; exact Nat.le_refl _)]; exact hx)
   have HK : Hid (Kept (fun k => k < w.heap.size) w wr) := hK
   clear hno hK he
   go_wp2
   go_ret
   exact ⟨.inr ⟨rfl, HNO.out⟩, HK.out⟩
theorem withA_any (l : List Atr) (n : Nat) (hln : l.length = n) (hn : n <= 1000000) (aa : Option Addr) (cap : Nat) (S T : ByteArray) (w : World) (ha : AtsAt (fun k => k < w.heap.size) w aa l) :
  Calls Try.prog 26 #[.slice aa n cap, .agg #[.string S, .string T]] w fun e w' => ∃ ao c, e = .returned (.slice ao (setA l ⟨S.toList, T.toList⟩).length c) /\ OwnZ (fun k => k < w.heap.size) w' 39 2 ao (setA l ⟨S.toList, T.toList⟩).length c (atrCells (setA l ⟨S.toList, T.toList⟩)) /\ Kept (fun k => k < w.heap.size) w w' := by
 obtain ⟨V, hV⟩ : ∃ V, w.alloc (.cells #[.string S, .string T] 39) = V := ⟨_, rfl⟩
 have kV : Kept (fun k => k < w.heap.size) w V := by rw [<- hV]; exact (Kept.refl _ w).alloc (fun _ h => h) _
 obtain ⟨N, hN⟩ : ∃ N, w.heap.size = N := ⟨_, rfl⟩
 have hbV : V.heap[N]? = some (.cells #[.string S, .string T] 39) := by rw [<- hV, <- hN]; exact heap_alloc_new w _
 have rc := copyA_any l aa n cap hln (by omega) V (ha.kept kV fun k h => Nat.lt_of_lt_of_le h kV.size)
 have HV : Hid (w.alloc (.cells #[.string S, .string T] 39) = V) := hV
 have HKV : Hid (Kept (fun k => k < w.heap.size) w V) := kV
 have HN : Hid (w.heap.size = N) := hN
 have HBV : Hid (V.heap[N]? = some (.cells #[.string S, .string T] 39)) := hbV
 have HL : Hid (l.length = n) := hln
 clear hV kV hN hbV ha hln
 go_enter Try.func26, Try.ntmps26
 go_upto_region 1 with fail
 rw [HV.out, HN.out]
 clear HV
 go_wp2_with fail
 refine rc.mono ?_
 rintro e w1 ⟨ao, c, rfl, hO, hK1⟩
 have hb1 : w1.heap[N]? = some (.cells #[.string S, .string T] 39) := (hK1.block N (lt_block HBV.out)).trans HBV.out
 obtain ⟨W, hW⟩ : ∃ W, w1.alloc (.cells #[.string S] 9) = W := ⟨_, rfl⟩
 have kW : Kept (fun k => k < w1.heap.size) w1 W := by rw [<- hW]; exact (Kept.refl _ w1).alloc (fun _ h => h) _
 obtain ⟨B, hB⟩ : ∃ B, w1.heap.size = B := ⟨_, rfl⟩
 have hsW : W.cell? ⟨B, 0, none⟩ = some (.string S) := by rw [<- hW, <- hB, cell_block (heap_alloc_new w1 _)]; rfl
 have rn := named_any S w1
 have ri := indexA_any l n HL.out hn ao c B S W ((hO.atsAt (K' := fun k => k < w1.heap.size) fun g hg => (OwnZ.out hO hg).2).kept kW fun k h => Nat.lt_of_lt_of_le h kW.size) hsW
 have c0 : w1.cell? ⟨N, 0, none⟩ = some (.string S) := by rw [cell_block hb1]; rfl
 have HO : Hid (OwnZ (fun k => k < V.heap.size) w1 39 2 ao n c (atrCells l)) := hO
 have HK1 : Hid (Kept (fun k => k < w.heap.size) w w1) := HKV.out.trans (hK1.mono fun k h => Nat.lt_of_lt_of_le h HKV.out.size)
 have HKW : Hid (Kept (fun k => k < w1.heap.size) w1 W) := kW
 have HVS : Hid (V.heap.size <= w1.heap.size) := hK1.size
 have HB1 : Hid (w1.heap[N]? = some (.cells #[.string S, .string T] 39)) := hb1
 have HWe : Hid (w1.alloc (.cells #[.string S] 9) = W) := hW
 have HBe : Hid (w1.heap.size = B) := hB
 clear rc hO hK1 hb1 hW kW hB hsW HBV
 go_wp2_with (go_at_call 42; refine rn.mono ?_; rintro e w2 ⟨rfl, hw2⟩; replace hw2 := hw2.symm; subst hw2)
 rw [HWe.out, HBe.out]
 refine ri.mono ?_
 rintro e w2 ⟨hres, hk2⟩
 have hb2 : w2.heap[N]? = some (.cells #[.string S, .string T] 39) := ((HKW.out.trans (hk2.mono fun k h => Nat.lt_of_lt_of_le h HKW.out.size)).block N (lt_block HB1.out)).trans HB1.out
 have hO2 : OwnZ (fun k => k < V.heap.size) w2 39 2 ao n c (atrCells l) := OwnZ.to HO.out (fun g hg => (OwnZ.out HO.out hg).1) (fun g hg => (HKW.out.trans (hk2.mono fun k h => Nat.lt_of_lt_of_le h HKW.out.size)).block g (OwnZ.out HO.out hg).2)
 have hK2 : Kept (fun k => k < w.heap.size) w w2 := HK1.out.trans ((HKW.out.trans (hk2.mono fun k h => Nat.lt_of_lt_of_le h HKW.out.size)).mono fun k h => Nat.lt_of_lt_of_le h HK1.out.size)
 have hO3 : OwnZ (fun k => k < w.heap.size) w2 39 2 ao n c (atrCells l) := OwnZ.to hO2 (fun g hg hh => (OwnZ.out hO2 hg).1 (Nat.lt_of_lt_of_le hh HKV.out.size)) (fun _ _ => rfl)
 have e0 : w2.cell? ⟨N, 0, none⟩ = some (.string S) := by rw [cell_block hb2]; rfl
 have e1 : w2.cell? ⟨N, 1, none⟩ = some (.string T) := by rw [cell_block hb2]; rfl
 clear rn ri c0 hk2 HO HK1 HKW HVS HB1 HWe HBe hO2 hb2
 rcases hres with ⟨k, hk, rfl, hname, hno⟩ | ⟨rfl, hno⟩
 ·have HS : Hid (setA l ⟨S.toList, T.toList⟩ = l.set k ⟨S.toList, T.toList⟩) := setA_at l _ k hk hname hno
  obtain ⟨c0, c1⟩ := atr_get l k hk
  obtain ⟨g, rfl, d0⟩ := hO3.cell c0
  obtain ⟨g', eg, d1⟩ := hO3.cell c1
  have : g' = g := by injection eg with eg; injection eg with eg; exact eg.symm
  subst this
  have hV4 := hO3.setA k ⟨S.toList, T.toList⟩ hk
  have hS : (⟨S.toList.toArray⟩ : ByteArray) = S := by apply ByteArray.ext; rw [ByteArray.toList_eq]
  have hT : (⟨T.toList.toArray⟩ : ByteArray) = T := by apply ByteArray.ext; rw [ByteArray.toList_eq]
  dsimp only [sv] at hV4
  rw [hS, hT] at hV4
  have hgk : ¬ g' < w.heap.size := (OwnZ.out hO3 (g := g') rfl).1
  have hK4 : Kept (fun k => k < w.heap.size) w ((w2.setCell ⟨g', k * 2, none⟩ (.string S)).setCell ⟨g', k * 2 + 1, none⟩ (.string T)) := (hK2.setCell (p := ⟨g', k * 2, none⟩) hgk _).setCell (p := ⟨g', k * 2 + 1, none⟩) hgk _
  have HV4 : Hid (OwnZ (fun k => k < w.heap.size) ((w2.setCell ⟨g', k * 2, none⟩ (.string S)).setCell ⟨g', k * 2 + 1, none⟩ (.string T)) 39 2 (some ⟨g', 0, none⟩) n c (atrCells (l.set k ⟨S.toList, T.toList⟩))) := hV4
  have HK4 : Hid (Kept (fun k => k < w.heap.size) w ((w2.setCell ⟨g', k * 2, none⟩ (.string S)).setCell ⟨g', k * 2 + 1, none⟩ (.string T))) := hK4
  clear hV4 hS hT hgk hK4 eg c0 c1
  unfold sv at d0 d1
  have hfz : ∀ j, w2.frozen? ⟨g', j, none⟩ = false := fun j => by
   rcases hO3.2.2.2 with ⟨r1, _⟩ | ⟨g2, cur, r1, r2, r3, r4⟩
   ·cases r1
   ·injection r1 with r1
    injection r1 with r1
    subst r1
    exact frozen_block r3 j
  have f0 := hfz (k * 2)
  have f1 := hfz (k * 2 + 1)
  have hkn : k < n := by rw [<- HL.out]; exact hk
  clear hO3 hK2 hfz hname hno
  go_wp2
  go_ret
  refine ⟨some ⟨g', 0, none⟩, c, ?_, ?_, HK4.out⟩
  ·rw [HS.out, List.length_set, HL.out]; try rfl
  ·rw [HS.out, List.length_set, HL.out]; exact HV4.out
 ·have HS : Hid (setA l ⟨S.toList, T.toList⟩ = l ++ [⟨S.toList, T.toList⟩]) := setA_no l _ hno
  obtain ⟨ao', c', w', hr, hO4, hK4⟩ := appA hO3 (fun k h => Nat.lt_of_lt_of_le h hK2.size) hn S T
  have HO4 : Hid (OwnZ (fun k => k < w.heap.size) w' 39 2 ao' (n + 1) c' (atrCells (l ++ [⟨S.toList, T.toList⟩]))) := hO4
  have HK4 : Hid (Kept (fun k => k < w.heap.size) w w') := hK2.trans hK4
  clear hO3 hK2 hO4 hK4 hno
  go_wp2_with (at_builtin; refine wpList_appR (w' := w') rfl (.tmp 21) (.tmp 23) 29 29 rfl _ _ (.slice ao' (n + 1) c') rfl rfl hr ?_)
  go_ret
  refine ⟨ao', c', ?_, ?_, HK4.out⟩
  ·rw [HS.out, List.length_append, HL.out]; rfl
  ·rw [HS.out, List.length_append, HL.out]; exact HO4.out
theorem set_in (K : Nat -> Prop) (p i : Nat) (M : Dm) (S T : ByteArray) (w : World) (h : DX K w p M) (hi : i < M.n) (hMn : M.n <= 1000000) (hkd : (M.nd i).kind = 1) (hfew : (M.nd i).attrs.length <= 100000) (hsz : ∀ x ∈ (M.nd i).attrs, x.name.length <= 1000000000 /\ x.value.length <= 1000000000) (hS : S.size <= 1000000000) (hT : T.size <= 1000000000) :
  Calls Try.prog 9 #[.pointer (some ⟨p, 0, none⟩), .int .i64 (i : Int), .string S, .string T] w fun e w' =>
   ((soundL [⟨0, 1, (M.nd i).name, setA (M.nd i).attrs ⟨S.toList, T.toList⟩, []⟩] = true /\ e = .returned (.int .u16 0) /\ DX K w' p (M.setN i { M.nd i with attrs := setA (M.nd i).attrs ⟨S.toList, T.toList⟩ })) \/
    (soundL [⟨0, 1, (M.nd i).name, setA (M.nd i).attrs ⟨S.toList, T.toList⟩, []⟩] = false /\ e = .returned (.int .u16 82) /\ DX K w' p M)) /\ Kept K w w' := by
 obtain ⟨ga, gc, hY⟩ := h
 obtain ⟨g, rfl, -, -, -⟩ := hY.at (by omega)
 obtain ⟨aa, ac, hc, hO⟩ := hY.cell hi
 have c0 : w.cell? ⟨g, i * 22, none⟩ = some (.int .u8 1) := by have := hc 0 _ rfl; rw [hkd] at this; exact this
 have c1 : w.cell? ⟨g, i * 22 + 1, none⟩ = some (.string ⟨(M.nd i).name.toArray⟩) := hc 1 _ rfl
 have c3 : w.cell? ⟨g, i * 22 + 3, none⟩ = some (.slice aa (M.nd i).attrs.length ac) := hc 3 _ rfl
 have re := element_yes p g M.n gc i 81 w hY.c1 hi (by omega) c0
 have gl := hY.gk.2.2
 have rw' := withA_any (M.nd i).attrs _ rfl (by omega) aa ac S T w (hO.atsAt (K' := fun k => k < w.heap.size) fun x hx => (OwnZ.out hO hx).2)
 obtain ⟨nm, hnm⟩ : ∃ nm, (M.nd i).name = nm := ⟨_, rfl⟩
 obtain ⟨l0, hl0⟩ : ∃ l0, (M.nd i).attrs = l0 := ⟨_, rfl⟩
 obtain ⟨l, hl⟩ : ∃ l, setA (M.nd i).attrs ⟨S.toList, T.toList⟩ = l := ⟨_, rfl⟩
 have hll : l.length <= 100001 := by rw [<- hl]; have := setA_len (M.nd i).attrs ⟨S.toList, T.toList⟩; omega
 have hlz : ∀ x ∈ l, x.name.length <= 1000000000 /\ x.value.length <= 1000000000 := fun x hx => by
  rw [<- hl] at hx
  rcases setA_mem _ _ _ hx with h | h
  ·exact hsz x h
  ·rw [h]
   have e1 : S.toList.length = S.size := by rw [ByteArray.toList_eq]; rfl
   have e2 : T.toList.length = T.size := by rw [ByteArray.toList_eq]; rfl
   exact ⟨by show S.toList.length <= _; omega, by show T.toList.length <= _; omega⟩
 rw [hl] at rw' ⊢
 rw [hl0] at rw' c3
 rw [hnm] at c1 ⊢
 obtain ⟨n0, hn0⟩ : ∃ n0, l0.length = n0 := ⟨_, rfl⟩
 rw [hn0] at rw' c3
 obtain ⟨n, hn⟩ : ∃ n, l.length = n := ⟨_, rfl⟩
 rw [hn] at rw'
 have HY : Hid (DY K w p M (some ⟨g, 0, none⟩) gc) := hY
 have HLZ : Hid (∀ x ∈ l, x.name.length <= 1000000000 /\ x.value.length <= 1000000000) := hlz
 have HN : Hid (l.length = n) := hn
 have HLL : Hid (l.length <= 100001) := hll
 have hfg := hY.fg (i * 22 + 3)
 clear hY hc hO hlz hn hll hfew hsz hS hT hkd hn0 hl hl0 hnm c0
 go_enter Try.func9, Try.ntmps9
 go_upto_region 4 with (go_at_call 25; refine re.mono ?_; rintro e w2 ⟨rfl, hw2⟩; replace hw2 := hw2.symm; subst hw2)
 clear re
 go_wp2_with fail
 refine rw'.mono ?_
 rintro e w1 ⟨ao, c, rfl, hO, hK⟩
 have hc1 : w1.cell? ⟨g, i * 22 + 1, none⟩ = some (.string ⟨nm.toArray⟩) := (hK.cell (p := ⟨g, i * 22 + 1, none⟩) gl).trans c1
 obtain ⟨N, hN⟩ : ∃ N, w1.heap.size = N := ⟨_, rfl⟩
 have ri := iz1 w1 N hN 1 1 rfl ⟨nm.toArray⟩ ⟨#[]⟩ l ao n c HN.out (hO.atsAt (K' := fun k => k < w1.heap.size) fun x hx => (OwnZ.out hO hx).2) (by have := HLL.out; have := HN.out; omega) HLZ.out
 rw [ByteArray.toList_eq, ByteArray.toList_eq] at ri
 obtain ⟨q, hq⟩ : ∃ q, soundL [⟨0, 1, nm, l, []⟩] = q := ⟨_, rfl⟩
 have HRI : Hid (Calls Try.prog 27 #[.slice (some ⟨N, 0, none⟩) 1 1] (w1.alloc (.cells #[.int .i64 0, .int .u8 1, .string ⟨nm.toArray⟩, .string ⟨#[]⟩, .slice ao n c] 71)) fun e w' => e = .returned (.bool q) /\ Kept (fun k => k < w1.heap.size) w1 w') := by rw [<- hq]; exact ri
 have HO : Hid (OwnZ (fun k => k < w.heap.size) w1 39 2 ao n c (atrCells l)) := hO
 have HK : Hid (Kept (fun k => k < w.heap.size) w w1) := hK
 have HQ : Hid (soundL [⟨0, 1, nm, l, []⟩] = q) := hq
 have HNe : Hid (w1.heap.size = N) := hN
 clear rw' hO hK hN ri hq c1
 go_wp2_with fail
 rw [HNe.out]
 refine HRI.out.mono ?_
 rintro e w2 ⟨rfl, hk2⟩
 have hK2 : Kept (fun k => k < w.heap.size) w w2 := HK.out.trans (hk2.mono fun k h => Nat.lt_of_lt_of_le h HK.out.size)
 have hO2 : OwnZ (fun k => k < w.heap.size) w2 39 2 ao n c (atrCells l) := OwnZ.to HO.out (fun x hx => (OwnZ.out HO.out hx).1) (fun x hx => hk2.block x (OwnZ.out HO.out hx).2)
 have hc3 : w2.cell? ⟨g, i * 22 + 3, none⟩ = some (.slice aa n0 ac) := (hK2.cell (p := ⟨g, i * 22 + 3, none⟩) gl).trans c3
 have hf3 : w2.frozen? ⟨g, i * 22 + 3, none⟩ = false := (hK2.frozen (p := ⟨g, i * 22 + 3, none⟩) gl).trans hfg
 cases q with
 | true =>
  obtain ⟨hY4, hK4⟩ := HY.out.setAttrs hK2 hi HN.out hO2
  have HY4 : Hid (DX K (w2.setCell ⟨g, i * 22 + 3, none⟩ (.slice ao n c)) p (M.setN i { M.nd i with attrs := l })) := ⟨_, _, hY4⟩
  have HK4 : Hid (Kept K w (w2.setCell ⟨g, i * 22 + 3, none⟩ (.slice ao n c))) := hK4
  clear HRI hk2 hK2 hO2 hY4 hK4 hc1 c3 hfg
  go_wp2
  go_ret
  exact ⟨.inl ⟨HQ.out, rfl, HY4.out⟩, HK4.out⟩
 | false =>
  have HX2 : Hid (DX K w2 p M) := ⟨_, _, HY.out.kept hK2⟩
  have HK2 : Hid (Kept K w w2) := hK2.mono HY.out.1
  clear HRI hk2 hK2 hO2 hc1 c3 hfg hc3 hf3
  go_wp2
  go_ret
  exact ⟨.inr ⟨HQ.out, rfl, HX2.out⟩, HK2.out⟩
end Go.Proofs.Ytojbjiopilkbgaa
