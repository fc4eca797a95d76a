/-
 Attributes by name: named, slices.IndexFunc over attributes, Doc.element.; withAttribute.; The chapter's example holds (known).; A document of elements side by side (plain).
-/
import Derived.Test.YtfeinppedejlpaaGreatNB12
namespace Go.Proofs.YtfeinppedejlpaaGreat
set_option linter.unusedVariables false
set_option maxRecDepth 100000
set_option maxHeartbeats 8000000
section
open Go.RowKit
theorem enter234 (args : Array Value) (X : World) : (callFunc 234 args).run Tryz.prog X = .ok (.enter 234 args) X := za0 Tryz.func234 (by kernel_rfl) (c := _) rfl args X
theorem zhg (s : ByteArray) (w : World) :
  Calls Tryz.prog 177 #[.string s] w fun e w' => e = .returned (.func (.func 234) #[] #[.pointer (some ⟨w.heap.size, 0, none⟩)]) /\ w' = w.alloc (.cells #[.string s] 9) := by
 go_enter Tryz.func177, Tryz.ntmps177
 go_wp2
 go_ret
 exact ⟨rfl, rfl⟩
theorem zkj (a v s : ByteArray) (b : Nat) (w : World) (hb : w.cell? ⟨b, 0, none⟩ = some (.string s)) :
  Calls Tryz.prog 234 #[.agg #[.string a, .string v], .pointer (some ⟨b, 0, none⟩)] w fun e w' => e = .returned (.bool (a.toList == s.toList)) /\ Kept (fun k => k < w.heap.size) w w' := by
 obtain ⟨W, hW⟩ : ∃ W, w.alloc (.cells #[.string a, .string v] 108) = W := ⟨_, rfl⟩
 have kW : Kept (fun k => k < w.heap.size) w W := by rw [<- hW]; exact (Kept.refl _ w).alloc (fun _ h => h) _
 have hbl : b < w.heap.size := World.block_lt_of_cell? w _ hb
 have hbW : W.cell? ⟨b, 0, none⟩ = some (.string s) := (kW.cell (p := ⟨b, 0, none⟩) hbl).trans hb
 have h0 : W.cell? ⟨w.heap.size, 0, none⟩ = some (.string a) := by rw [<- hW, zaa (heap_alloc_new w _)]; rfl
 obtain ⟨q, hq⟩ : ∃ q, (a.toList == s.toList) = q := ⟨_, rfl⟩
 rw [hq]
 have HW : Hid (w.alloc (.cells #[.string a, .string v] 108) = W) := hW
 have HK : Hid (Kept (fun k => k < w.heap.size) w W) := kW
 obtain ⟨N, hN⟩ : ∃ N, w.heap.size = N := ⟨_, rfl⟩
 rw [hN] at h0
 have HN : Hid (w.heap.size = N) := hN
 clear hW kW hb hbl hN
 cases q
 all_goals
  go_enter Tryz.func234, Tryz.ntmps234
  go_upto_region 1 with fail
  rw [HW.out, HN.out]
  go_wp2
  go_ret
  exact ⟨rfl, HK.out⟩
theorem zge (l : List Atr) (n : Nat) (hln : l.length = n) (hn : n <= 1000000) (a : Option Addr) (cap b : Nat) (s : ByteArray) (w : World) (hr : Zag (fun k => k < w.heap.size) w a l) (hb : w.cell? ⟨b, 0, none⟩ = some (.string s)) :
  Calls Tryz.prog 154 #[.slice a n cap, .func (.func 234) #[] #[.pointer (some ⟨b, 0, none⟩)]] w fun e w' => ((∃ k, ∃ h : k < l.length, e = .returned (.int .i64 (k : Int)) /\ l[k].name = s.toList /\ ∀ x ∈ l.take k, x.name ≠ s.toList) \/ (e = .returned (.int .i64 (-1)) /\ ∀ x ∈ l, x.name ≠ s.toList)) /\ Kept (fun k => k < w.heap.size) w w' := by
 have he := enter234
 have hbl : b < w.heap.size := World.block_lt_of_cell? w _ hb
 have HR : Hid (Zag (fun k => k < w.heap.size) w a l) := hr
 have HL : Hid (l.length = n) := hln
 have HB : Hid (w.cell? ⟨b, 0, none⟩ = some (.string s)) := hb
 have HBL : Hid (b < w.heap.size) := hbl
 clear hr hln hb hbl
 go_enter Tryz.func154, Tryz.ntmps154
 go_upto_region 2 with fail
 go_loopg [8] n (fun gh v wr => ∃ j : Nat, gh = n - j /\ j <= n /\ v = .int .i64 (j : Int) /\ (∀ x ∈ l.take j, x.name ≠ s.toList) /\ Kept (fun k => k < w.heap.size) w wr)
 case atStart => exact ⟨0, rfl, Nat.zero_le _, rfl, fun x hx => by simp at hx, Kept.refl _ _⟩
 case round =>
  obtain ⟨j, hgj, hj, rfl, hno, hK⟩ := hrel
  by_cases hlt : j < n
  ·have hl : j < l.length := by rw [HL.out]; exact hlt
   obtain ⟨g, o, rfl, hg, c0, c1⟩ := HR.out j hl
   have d0 : wr.cell? ⟨g, o + j * 2, none⟩ = some (sv l[j].name) := (hK.cell (p := ⟨g, o + j * 2, none⟩) hg).trans c0
   have d1 : wr.cell? ⟨g, o + j * 2 + 1, none⟩ = some (sv l[j].value) := (hK.cell (p := ⟨g, o + j * 2 + 1, none⟩) hg).trans c1
   have r := zkj ⟨l[j].name.toArray⟩ ⟨l[j].value.toArray⟩ s b wr ((hK.cell (p := ⟨b, 0, none⟩) HBL.out).trans HB.out)
   have HJ : Hid (l.take (j + 1) = l.take j ++ [l[j]]) := by rw [List.take_add_one, List.getElem?_eq_getElem hl]; rfl
   have HNO : Hid (∀ x ∈ l.take j, x.name ≠ s.toList) := hno
   have HK : Hid (Kept (fun k => k < w.heap.size) w wr) := hK
   rw [ByteArray.toList_eq] at r
   obtain ⟨q, hq⟩ : ∃ q, (l[j].name.toArray.toList == s.toList) = q := ⟨_, rfl⟩
   have hq' : (l[j].name == s.toList) = q := hq
   have HRR : Hid (Calls Tryz.prog 234 #[.agg #[.string ⟨l[j].name.toArray⟩, .string ⟨l[j].value.toArray⟩], .pointer (some ⟨b, 0, none⟩)] wr fun e w' => e = .returned (.bool q) /\ Kept (fun k => k < wr.heap.size) wr w') := by rw [<- hq]; exact r
   have HQ : Hid ((l[j].name == s.toList) = q) := hq'
   clear c0 c1 r hno hK hq hq'
   unfold sv at d0 d1
   go_wp2_with fail
   refine HRR.out.mono ?_
   rintro e w2 ⟨rfl, hk2⟩
   have HK2 : Hid (Kept (fun k => k < w.heap.size) w w2) := kt HK.out hk2
   clear HRR d0 d1 hk2 he
   cases q with
   | true =>
    go_wp2
    go_ret
    exact ⟨.inl ⟨j, hl, rfl, by simpa using HQ.out, HNO.out⟩, HK2.out⟩
   | false =>
    go_wp2
    go_roundg (n - (j + 1))
    case rel =>
     refine ⟨j + 1, rfl, by omega, by go_num, fun x hx => ?_, HK2.out⟩
     rw [HJ.out] at hx
     rcases List.mem_append.1 hx with h | h
     ·exact HNO.out x h
     ·rw [List.mem_singleton.1 h]; simpa using HQ.out
    case measure => omega
  ·have hjn : n = j := by omega
   subst hjn
   have HNO : Hid (∀ x ∈ l, x.name ≠ s.toList) := fun x hx => hno x (by rw [List.take_of_length_le (by rw [HL.out]; exact Nat.le_refl _)]; exact hx)
   have HK : Hid (Kept (fun k => k < w.heap.size) w wr) := hK
   clear hno hK he
   go_wp2
   go_ret
   exact ⟨.inr ⟨rfl, HNO.out⟩, HK.out⟩
theorem zdt (p g n cap i : Nat) (z : Int) (w : World) (hc : w.cell? ⟨p, 1, none⟩ = some (.slice (some ⟨g, 0, none⟩) n cap)) (hi : i < n) (hn : n <= 1000000000) (h0 : w.cell? ⟨g, i * 22, none⟩ = some (.int .u8 1)) :
  Calls Tryz.prog 135 #[.pointer (some ⟨p, 0, none⟩), .int .i64 (i : Int), .int .u16 z] w fun e w' => e = .returned (.tuple #[.pointer (some ⟨g, i * 22, none⟩), .int .u16 0]) /\ w' = w := by
 have r := zcs p g n cap i w hc hi hn
 clear hc
 go_enter Tryz.func135, Tryz.ntmps135
 go_wp2_with (go_at_call 110; refine r.mono ?_; rintro e w2 ⟨rfl, hw2⟩; replace hw2 := hw2.symm; subst hw2)
 go_ret2
 exact ⟨rfl, rfl⟩
end
section
open Go.RowKit
def setA (l : List Atr) (a : Atr) : List Atr := match l with
 | [] => [a]
 | x :: r => if x.name = a.name then a :: r else x :: setA r a
theorem zg4 : ∀ (l : List Atr) (a : Atr) (k : Nat) (h : k < l.length), l[k].name = a.name -> (∀ x ∈ l.take k, x.name ≠ a.name) -> setA l a = l.set k a
 | x :: r, a, 0, h, he, hn => by
  show (if x.name = a.name then a :: r else x :: setA r a) = _
  rw [if_pos (show x.name = a.name from he)]; rfl
 | x :: r, a, k + 1, h, he, hn => by
  show (if x.name = a.name then a :: r else x :: setA r a) = _
  rw [if_neg (hn x (by simp)), zg4 r a k (by simpa using h) he (fun y hy => hn y (by simp [hy]))]
  rfl
theorem zg0 : ∀ (l : List Atr) (a : Atr), (∀ x ∈ l, x.name ≠ a.name) -> setA l a = l ++ [a]
 | [], a, _ => rfl
 | x :: r, a, hn => by
  show (if x.name = a.name then a :: r else x :: setA r a) = _
  rw [if_neg (hn x (by simp)), zg0 r a (fun y hy => hn y (by simp [hy]))]
  rfl
theorem znn : ∀ (l : List Atr) (k : Nat) (a : Atr), k < l.length -> zab (l.set k a) = ((zab l).set (k * 2) (sv a.name)).set (k * 2 + 1) (sv a.value)
 | x :: r, 0, a, _ => rfl
 | x :: r, k + 1, a, h => by
  have ih := znn r k a (by simpa using h)
  show [sv x.name, sv x.value] ++ zab (r.set k a) = _
  rw [ih]
  show _ = ((sv x.name :: sv x.value :: zab r).set ((k + 1) * 2) _).set ((k + 1) * 2 + 1) _
  rw [show (k + 1) * 2 = (k * 2) + 1 + 1 by omega, show k * 2 + 1 + 1 + 1 = (k * 2 + 1) + 1 + 1 by omega]
  rfl
theorem Zac.setA {K : Nat -> Prop} {w : World} {g n cap : Nat} {l : List Atr} (h : Zac K w 108 2 (some ⟨g, 0, none⟩) n cap (zab l)) (k : Nat) (a : Atr) (hk : k < l.length) :
  Zac K ((w.setCell ⟨g, k * 2, none⟩ (sv a.name)).setCell ⟨g, k * 2 + 1, none⟩ (sv a.value)) 108 2 (some ⟨g, 0, none⟩) n cap (zab (l.set k a)) := by
 obtain ⟨h1, h2, h3, h4⟩ := h
 rw [znn l k a hk]
 refine ⟨by rw [List.length_set, List.length_set]; exact h1, h2, h3, ?_⟩
 rcases h4 with ⟨r1, _⟩ | ⟨g', cur, r1, r2, r3, r4, r5⟩
 ·cases r1
 ·injection r1 with r1
  injection r1 with r1
  subst r1
  refine .inr ⟨g, _, rfl, r2, zai (zai r3 _ _) _ _, by simp [r4], ?_⟩
  rw [Array.toList_setIfInBounds, Array.toList_setIfInBounds, <- r5, List.take_set, List.take_set]
theorem zsm {K : Nat -> Prop} {w : World} {ao : Option Addr} {n cap : Nat} {l : List Atr} (h : Zac K w 108 2 ao n cap (zab l)) (hKl : ∀ k, K k -> k < w.heap.size) (hn : n <= 1000000) (S T : ByteArray) :
  ∃ ao' cap' w', (Builtin.append_ #[44, 44] 44 #[.slice ao n cap, .slice (some ⟨w.heap.size, 0, none⟩) 1 1]).run Tryz.prog (w.alloc (.cells #[.string S, .string T] 108)) = .ok (.slice ao' (n + 1) cap') w' /\ Zac K w' 108 2 ao' (n + 1) cap' (zab (l ++ [⟨S.toList, T.toList⟩])) /\ Kept K w w' := by
 obtain ⟨i, hi, hip⟩ := Option.map_eq_some_iff.1 znq
 have hz : i.zero = _ := congrArg (·.1) hip
 have hsz : i.size = 2 := congrArg (·.2.1) hip
 have hby : i.bytes = 32 := congrArg (·.2.2) hip
 obtain ⟨W, hW⟩ : ∃ W, w.alloc (.cells #[.string S, .string T] 108) = W := ⟨_, rfl⟩
 have kW : Kept (fun k => k < w.heap.size) w W := by rw [<- hW]; exact (Kept.refl _ w).alloc (fun _ h => h) _
 have hs : Src Tryz.prog 2 44 (.slice (some ⟨w.heap.size, 0, none⟩) 1 1) 1 [.string S, .string T] W := by
  rw [<- hW]
  refine zec w w.heap.size [.string S, .string T] _ Tryz.underlying44 (by intro u hu; rcases List.mem_cons.1 hu with rfl | hu; rfl; rw [List.mem_singleton.1 hu]; rfl) rfl rfl
 have hO : Zac K W 108 2 ao n cap (zab l) := Zac.to h (fun g hg => (Zac.out h hg).1) (fun g hg => kW.block g (Zac.out h hg).2)
 obtain ⟨ao', cap', w', hr, ho, hk⟩ := zee (P := Tryz.prog) (K := K) W 44 44 44 108 i _ Tryz.underlying44 hi hz 2 hsz rfl (by omega) hO _ 1 (by omega) (by omega) _ hs (fun k hk => ltl (hKl k hk) kW.size) (by omega)
 refine ⟨ao', cap', w', by rw [hW]; exact hr, ?_, (kW.mono hKl).trans hk⟩
 rw [zbr]
 have e : zab [⟨S.toList, T.toList⟩] = [.string S, .string T] := by
  have hS : (⟨S.toList.toArray⟩ : ByteArray) = S := by apply ByteArray.ext; rw [ByteArray.toList_eq]
  have hT : (⟨T.toList.toArray⟩ : ByteArray) = T := by apply ByteArray.ext; rw [ByteArray.toList_eq]
  show [sv S.toList, sv T.toList] = _
  unfold sv
  rw [hS, hT]
 rw [e]
 exact ho
theorem zlc (l : List Atr) (n : Nat) (hln : l.length = n) (hn : n <= 1000000) (aa : Option Addr) (cap : Nat) (S T : ByteArray) (w : World) (ha : Zag (fun k => k < w.heap.size) w aa l) :
  Calls Tryz.prog 136 #[.slice aa n cap, .agg #[.string S, .string T]] w fun e w' => ∃ ao c, e = .returned (.slice ao (setA l ⟨S.toList, T.toList⟩).length c) /\ Zac (fun k => k < w.heap.size) w' 108 2 ao (setA l ⟨S.toList, T.toList⟩).length c (zab (setA l ⟨S.toList, T.toList⟩)) /\ Kept (fun k => k < w.heap.size) w w' := by
 obtain ⟨V, hV⟩ : ∃ V, w.alloc (.cells #[.string S, .string T] 108) = V := ⟨_, rfl⟩
 have kV : Kept (fun k => k < w.heap.size) w V := by rw [<- hV]; exact (Kept.refl _ w).alloc (fun _ h => h) _
 obtain ⟨N, hN⟩ : ∃ N, w.heap.size = N := ⟨_, rfl⟩
 have hbV : V.heap[N]? = some (.cells #[.string S, .string T] 108) := by rw [<- hV, <- hN]; exact heap_alloc_new w _
 have rc := zft l aa n cap hln (by omega) V (ha.kept kV fun k h => ltl h kV.size)
 have HV : Hid (w.alloc (.cells #[.string S, .string T] 108) = V) := hV
 have HKV : Hid (Kept (fun k => k < w.heap.size) w V) := kV
 have HN : Hid (w.heap.size = N) := hN
 have HBV : Hid (V.heap[N]? = some (.cells #[.string S, .string T] 108)) := hbV
 have HL : Hid (l.length = n) := hln
 clear hV kV hN hbV ha hln
 go_enter Tryz.func136, Tryz.ntmps136
 go_upto_region 1 with fail
 rw [HV.out, HN.out]
 clear HV
 go_wp2_with fail
 refine rc.mono ?_
 rintro e w1 ⟨ao, c, rfl, hO, hK1⟩
 have hb1 : w1.heap[N]? = some (.cells #[.string S, .string T] 108) := (hK1.block N (zad HBV.out)).trans HBV.out
 obtain ⟨W, hW⟩ : ∃ W, w1.alloc (.cells #[.string S] 9) = W := ⟨_, rfl⟩
 have kW : Kept (fun k => k < w1.heap.size) w1 W := by rw [<- hW]; exact (Kept.refl _ w1).alloc (fun _ h => h) _
 obtain ⟨B, hB⟩ : ∃ B, w1.heap.size = B := ⟨_, rfl⟩
 have hsW : W.cell? ⟨B, 0, none⟩ = some (.string S) := by rw [<- hW, <- hB, zaa (heap_alloc_new w1 _)]; rfl
 have rn := zhg S w1
 have ri := zge l n HL.out hn ao c B S W ((hO.atsAt (K' := fun k => k < w1.heap.size) fun g hg => (Zac.out hO hg).2).kept kW fun k h => ltl h kW.size) hsW
 have c0 : w1.cell? ⟨N, 0, none⟩ = some (.string S) := by rw [zaa hb1]; rfl
 have HO : Hid (Zac (fun k => k < V.heap.size) w1 108 2 ao n c (zab l)) := hO
 have HK1 : Hid (Kept (fun k => k < w.heap.size) w w1) := kt HKV.out hK1
 have HKW : Hid (Kept (fun k => k < w1.heap.size) w1 W) := kW
 have HVS : Hid (V.heap.size <= w1.heap.size) := hK1.size
 have HB1 : Hid (w1.heap[N]? = some (.cells #[.string S, .string T] 108)) := hb1
 have HWe : Hid (w1.alloc (.cells #[.string S] 9) = W) := hW
 have HBe : Hid (w1.heap.size = B) := hB
 clear rc hO hK1 hb1 hW kW hB hsW HBV
 go_wp2_with (go_at_call 177; refine rn.mono ?_; rintro e w2 ⟨rfl, hw2⟩; replace hw2 := hw2.symm; subst hw2)
 rw [HWe.out, HBe.out]
 refine ri.mono ?_
 rintro e w2 ⟨hres, hk2⟩
 have hb2 : w2.heap[N]? = some (.cells #[.string S, .string T] 108) := ((kt HKW.out hk2).block N (zad HB1.out)).trans HB1.out
 have hO2 : Zac (fun k => k < V.heap.size) w2 108 2 ao n c (zab l) := Zac.to HO.out (fun g hg => (Zac.out HO.out hg).1) (fun g hg => (kt HKW.out hk2).block g (Zac.out HO.out hg).2)
 have hK2 : Kept (fun k => k < w.heap.size) w w2 := HK1.out.trans ((kt HKW.out hk2).mono fun k h => ltl h HK1.out.size)
 have hO3 : Zac (fun k => k < w.heap.size) w2 108 2 ao n c (zab l) := Zac.to hO2 (fun g hg hh => (Zac.out hO2 hg).1 (ltl hh HKV.out.size)) (fun _ _ => rfl)
 have e0 : w2.cell? ⟨N, 0, none⟩ = some (.string S) := by rw [zaa hb2]; rfl
 have e1 : w2.cell? ⟨N, 1, none⟩ = some (.string T) := by rw [zaa hb2]; rfl
 clear rn ri c0 hk2 HO HK1 HKW HVS HB1 HWe HBe hO2 hb2
 rcases hres with ⟨k, hk, rfl, hname, hno⟩ | ⟨rfl, hno⟩
 ·have HS : Hid (setA l ⟨S.toList, T.toList⟩ = l.set k ⟨S.toList, T.toList⟩) := zg4 l _ k hk hname hno
  obtain ⟨c0, c1⟩ := zep l k hk
  obtain ⟨g, rfl, d0⟩ := hO3.cell c0
  obtain ⟨g', eg, d1⟩ := hO3.cell c1
  have : g' = g := by injection eg with eg; injection eg with eg; exact eg.symm
  subst this
  have hV4 := hO3.setA k ⟨S.toList, T.toList⟩ hk
  have hS : (⟨S.toList.toArray⟩ : ByteArray) = S := by apply ByteArray.ext; rw [ByteArray.toList_eq]
  have hT : (⟨T.toList.toArray⟩ : ByteArray) = T := by apply ByteArray.ext; rw [ByteArray.toList_eq]
  dsimp only [sv] at hV4
  rw [hS, hT] at hV4
  have hgk : ¬ g' < w.heap.size := (Zac.out hO3 (g := g') rfl).1
  have hK4 : Kept (fun k => k < w.heap.size) w ((w2.setCell ⟨g', k * 2, none⟩ (.string S)).setCell ⟨g', k * 2 + 1, none⟩ (.string T)) := (hK2.setCell (p := ⟨g', k * 2, none⟩) hgk _).setCell (p := ⟨g', k * 2 + 1, none⟩) hgk _
  have HV4 : Hid (Zac (fun k => k < w.heap.size) ((w2.setCell ⟨g', k * 2, none⟩ (.string S)).setCell ⟨g', k * 2 + 1, none⟩ (.string T)) 108 2 (some ⟨g', 0, none⟩) n c (zab (l.set k ⟨S.toList, T.toList⟩))) := hV4
  have HK4 : Hid (Kept (fun k => k < w.heap.size) w ((w2.setCell ⟨g', k * 2, none⟩ (.string S)).setCell ⟨g', k * 2 + 1, none⟩ (.string T))) := hK4
  clear hV4 hS hT hgk hK4 eg c0 c1
  unfold sv at d0 d1
  have hfz : ∀ j, w2.frozen? ⟨g', j, none⟩ = false := fun j => by
   rcases hO3.2.2.2 with ⟨r1, _⟩ | ⟨g2, cur, r1, r2, r3, r4⟩
   ·cases r1
   ·injection r1 with r1
    injection r1 with r1
    subst r1
    exact zao r3 j
  have f0 := hfz (k * 2)
  have f1 := hfz (k * 2 + 1)
  have hkn : k < n := by rw [<- HL.out]; exact hk
  clear hO3 hK2 hfz hname hno
  go_wp2
  go_ret
  refine ⟨some ⟨g', 0, none⟩, c, ?_, ?_, HK4.out⟩
  ·rw [HS.out, List.length_set, HL.out]; try rfl
  ·rw [HS.out, List.length_set, HL.out]; exact HV4.out
 ·have HS : Hid (setA l ⟨S.toList, T.toList⟩ = l ++ [⟨S.toList, T.toList⟩]) := zg0 l _ hno
  obtain ⟨ao', c', w', hr, hO4, hK4⟩ := zsm hO3 (fun k h => ltl h hK2.size) hn S T
  have HO4 : Hid (Zac (fun k => k < w.heap.size) w' 108 2 ao' (n + 1) c' (zab (l ++ [⟨S.toList, T.toList⟩]))) := hO4
  have HK4 : Hid (Kept (fun k => k < w.heap.size) w w') := hK2.trans hK4
  clear hO3 hK2 hO4 hK4 hno
  go_wp2_with (at_builtin; refine zak (w' := w') rfl (.tmp 21) (.tmp 23) 44 44 rfl _ _ (.slice ao' (n + 1) c') rfl rfl hr ?_)
  go_ret
  refine ⟨ao', c', ?_, ?_, HK4.out⟩
  ·rw [HS.out, List.length_append, HL.out]; rfl
  ·rw [HS.out, List.length_append, HL.out]; exact HO4.out
end
section
open Go.RowKit
def zrv : Rest := ⟨0, none, 0, 0, 0, 0, 0, ⟨false, false, false, false, false⟩⟩
abbrev zle (kz : Int) (S D : ByteArray) : Value := .agg #[.int .u8 kz, .string S, .string D, .slice none 0 0, .int .i64 0, .slice none 0 0, .int .i64 0, .int .i64 0, .int .i64 0, .bool false, .bool false, .bool false, .bool false, .bool false]
theorem zk6 (K : Nat -> Prop) (p : Nat) (M : Dm) (w : World) (kz : Int) (kd : Nat) (S D : ByteArray) (hkz : kz = (kd : Int)) (hX : DX K w p M) (hMn : M.n <= 100000) (hML : M.limit <= 100000) :
  Calls Tryz.prog 68 #[.pointer (some ⟨p, 0, none⟩), zle kz S D] w fun e w' => Kept K w w' /\ Makes K p M ⟨kd, S.toList, D.toList, []⟩ e w' := by
 subst hkz
 exact zgq K p kd S D [] none 0 0 zrv w M hX hMn hML rfl (Nat.zero_le _) (Zag.nil _ _ _) (fun x hx => by cases hx)
theorem zrz (K : Nat -> Prop) (p : Nat) (M : Dm) (w : World) (kz : Int) (kd : Nat) (S D : ByteArray) (nm dt : List UInt8) (hkz : kz = (kd : Int)) (hS : S.toList = nm) (hD : D.toList = dt) (hX : DX K w p M) (hMn : M.n <= 100000) (hML : M.limit <= 100000) (hs : zat ⟨kd, nm, dt, []⟩ = true) (ht : ¬ (kd = 1 /\ nm = [116, 101, 109, 112, 108, 97, 116, 101])) (hr : M.n + 1 <= M.limit) :
  Calls Tryz.prog 68 #[.pointer (some ⟨p, 0, none⟩), zle kz S D] w fun e w' => e = .returned (.tuple #[.int .i64 (M.n : Int), .int .u16 0]) /\ DX K w' p (M.add (Mk.nd ⟨kd, nm, dt, []⟩)) /\ Kept K w w' := by
 refine (zk6 K p M w kz kd S D hkz hX hMn hML).mono ?_
 rintro e w' ⟨hK, hM⟩
 rw [hS, hD] at hM
 cases hM with
 | arg h1 => rw [hs] at h1; cases h1
 | full h1 h2 h3 h4 => rw [if_neg ht] at h2; omega
 | two h1 h2 => exact absurd h2 ht
 | one h1 h2 h3 h4 h5 => exact ⟨h4, h5, hK⟩
def zsp : Nd := Mk.nd ⟨1, [100, 105, 118], [], []⟩
theorem znl : zat ⟨1, [100, 105, 118], [], []⟩ = true := by kernel_rfl
abbrev zsg : ByteArray := ⟨#[100, 105, 118]⟩
theorem zk9 : zsg.toList = [100, 105, 118] := by rw [ByteArray.toList_eq]
theorem zid : (⟨#[]⟩ : ByteArray).toList = [] := by rw [ByteArray.toList_eq]
end
section
open Go.RowKit
theorem zn0 (l : List Nat) (i : Nat) : zqy l i (-1) = l ++ [i] := by
 unfold zqy
 have : ∀ l : List Nat, l.takeWhile (fun k : Nat => decide ((k : Int) ≠ -1)) = l /\ l.dropWhile (fun k : Nat => decide ((k : Int) ≠ -1)) = [] := by
  intro l
  induction l with
  | nil => exact ⟨rfl, rfl⟩
  | cons x r ih =>
   have e : decide ((x : Int) ≠ -1) = true := decide_eq_true (by omega)
   rw [List.takeWhile_cons, List.dropWhile_cons, e, if_pos rfl, if_pos rfl, ih.1]
   exact ⟨rfl, ih.2⟩
 rw [(this l).1, (this l).2]
theorem zl4 {L : Nat -> Lk} {R : Nat -> List Nat} {up i : Nat} (h : (L i).up = -1) : putR L R up i (-1) = zax R up (R up ++ [i]) := by
 unfold YtfeinppedejlpaaGreat.putR zcy
 rw [if_pos h, zn0]
end
end Go.Proofs.YtfeinppedejlpaaGreat
