/-
  The document's own Clone: copies of a node's kids. The document's own Clone: one copy; the walk over what it calls. The document's own Clone: one copy, as a whole. CloneTells: Clone does the same to b
-/
import Derived.Test.YtfeinppedejlpaaGreatNWr
import Derived.Test.YtfeinppedejlpaaGreatNCp
import Derived.Test.YtfeinppedejlpaaGreatNW25
import Derived.Test.YtfeinppedejlpaaGreatNW27
import Derived.Deep.MidRow
import Derived.BigQuiet
import Derived.Test.YtfeinppedejlpaaGreatNRe
import Derived.Test.YtfeinppedejlpaaGreatNDf
import Derived.Test.YtfeinppedejlpaaGreatNUg
namespace Go.Proofs.YtfeinppedejlpaaGreat
section
open Go.RowKit
set_option linter.unusedVariables false
set_option maxRecDepth 100000
set_option maxHeartbeats 8000000
def RLev (r : Nat) (M0 : Dm) (R0 G0 : Nat -> List Nat) (rk0 : Nat -> Nat) (i : Nat) (cp : Sta -> Nat -> Sta × Nat) (nf : Nat -> Nat) : Prop :=
 ∀ k, k < M0.n -> rk0 i < rk0 k -> (M0.nd k).kind ≠ 5 -> ∀ s, Old M0 R0 G0 s -> s.ok -> s.M.n + nf k <= M0.limit -> ∀ (K J : Nat -> Prop) (w : World), RX K J w r s.M s.R s.G ->
  Calls Tryz.prog 120 #[.pointer (some ⟨r, 0, none⟩), .int .i64 (k : Int), .bool true] w fun e w' => e = .returned (.int .i64 (s.M.n : Int)) /\ RX K J w' r (cp s k).1.M (cp s k).1.R (cp s k).1.G /\ Kept K w w'
theorem zl1 {s : Sta} {K J : Nat -> Prop} {r : Nat} {w : World} (h : RX K J w r s.M s.R s.G) (hs : s.ok) (hn : s.M.n <= 100000) {up i : Nat} (hu : up < s.M.n) (hi : i < s.M.n) (hF : Fits s.M up i (-1)) :
  Calls Tryz.prog 94 #[.pointer (some ⟨r, 0, none⟩), .int .i64 (up : Int), .int .i64 (i : Int), .int .i64 (-1)] w fun e w' => e = .returned (.int .i64 0) /\ RX K J w' r (s.put up i).M (s.put up i).R (s.put up i).G /\ Kept K w w' := by
 obtain ⟨rk, hI⟩ := hs
 refine (zem K r up i (-1) s.M s.R s.G rk w h hI.good.wf hI.good.acy hu hi (.inl rfl) (by omega) (hI.core.move hi)).mono ?_
 rintro e w' ⟨hK, ⟨-, c, -⟩ | ⟨rfl, -, hX⟩⟩
 ·exact absurd hF c
 ·exact ⟨rfl, hX, hK⟩
theorem zok {nf : Nat -> Nat} (l : List Nat) {j : Nat} (hj : j < l.length) : needs nf (l.take j) + nf l[j] <= needs nf l := by
 have e : l = l.take (j + 1) ++ l.drop (j + 1) := (List.take_append_drop _ _).symm
 have h1 : needs nf l = needs nf (l.take (j + 1)) + needs nf (l.drop (j + 1)) := by rw [<- zdz, <- e]
 have h2 : needs nf (l.take (j + 1)) = needs nf (l.take j) + nf l[j] := by
  rw [List.take_succ_eq_append_getElem hj, zdz]
  simp [needs]
 omega
section
variable {M0 : Dm} {R0 G0 : Nat -> List Nat} {rk0 : Nat -> Nat} {cp : Sta -> Nat -> Sta × Nat} {nf : Nat -> Nat} {r : Nat}
theorem zf1 (i : Nat) (hL : Lev M0 R0 G0 rk0 i cp nf) (hRL : RLev r M0 R0 G0 rk0 i cp nf) {u tg : Nat} (hu : u < M0.n) (hl : ∀ k ∈ R0 u, k < M0.n /\ rk0 i < rk0 k /\ (M0.nd k).kind ≠ 4 /\ (M0.nd k).kind ≠ 5) (ht : M0.n <= tg) (s : Sta) (ho : Old M0 R0 G0 s) (hs : s.ok) (htn : tg < s.M.n)
  (hh : R0 u ≠ [] -> zbp (s.M.nd tg) = true) (hr : s.M.n + needs nf (R0 u) <= M0.limit) (hlim : M0.limit <= 100000) (K J : Nat -> Prop) (w : World) (h : RX K J w r s.M s.R s.G) :
  Calls Tryz.prog 192 #[.pointer (some ⟨r, 0, none⟩), .int .i64 (u : Int), .int .i64 (tg : Int)] w fun e w' => e = .returned (.tuple #[]) /\ RX K J w' r (copies cp tg (R0 u) s).M (copies cp tg (R0 u) s).R (copies cp tg (R0 u) s).G /\ Kept K w w' := by
 obtain ⟨A, hY⟩ := h
 have hsn : M0.n <= s.M.n := ho.n
 obtain ⟨g, hg, -, -, -⟩ := hY.nat (by omega)
 have c1 := hY.c1
 rw [hg] at c1
 have hus : u < s.M.n := by omega
 have eR : s.R u = R0 u := ho.r u hu (fun e => by cases e)
 have c5 : w.cell? ⟨g, u * 14 + 5, none⟩ = some (.slice (A.ka u) (s.R u).length (A.kc u)) := hY.cell hg hus 5 _ rfl
 rw [eR] at c5
 have hfl9 : (R0 u).length <= 100000 := by
  obtain ⟨rks, hIs⟩ := hs
  have := hIs.good.wf.len_le hus
  rw [eR] at this
  omega
 obtain ⟨K2, J2, hX2, hsub, hI2, hfree⟩ : ∃ K2 J2 : Nat -> Prop, RX K2 J2 w r s.M s.R s.G /\ (∀ k, K k -> K2 k) /\ Zan K2 w (A.ka u) (R0 u) /\ (∀ M R G w', RX K2 J2 w' r M R G -> RX K J w' r M R G) := by
  by_cases hne : R0 u = []
  ·exact ⟨K, J, ⟨A, hY⟩, fun _ h => h, by rw [hne]; exact Zan.nil _ _ _, fun _ _ _ _ h => h⟩
  ·obtain ⟨g0, o, e, hlt, hnb, hX, hI⟩ := hY.holdK hus (by rw [eR]; exact hne)
   rw [eR] at hI
   exact ⟨_, _, hX, fun k hk => .inl hk, hI.to (fun q hq => .inr hq) (fun _ _ => rfl), fun M R G w' h => h.free hnb⟩
 obtain ⟨L, hLL⟩ : ∃ L, R0 u = L := ⟨_, rfl⟩
 rw [hLL] at hl hh hr c5 hI2 hfl9 ⊢
 obtain ⟨ka, hka⟩ : ∃ ka, A.ka u = ka := ⟨_, rfl⟩
 rw [hka] at c5 hI2
 obtain ⟨fl, hfl⟩ : ∃ fl, L.length = fl := ⟨_, rfl⟩
 have HFL : Hid (L.length = fl) := hfl
 rw [hfl] at c5 hfl9
 obtain ⟨m, hm⟩ : ∃ m, s.M.n = m := ⟨_, rfl⟩
 rw [hm] at c1 hus
 have hm5 : m <= 100000 := by omega
 have HI2 : Hid (Zan K2 w ka L) := hI2
 have HX2 : Hid (RX K2 J2 w r s.M s.R s.G) := hX2
 have HSUB : Hid (∀ k, K k -> K2 k) := hsub
 have HFREE : Hid (∀ M R G w', RX K2 J2 w' r M R G -> RX K J w' r M R G) := hfree
 have HST : Hid (∀ j (hj : j < L.length) W, RX K2 J2 W r (copies cp tg (L.take j) s).M (copies cp tg (L.take j) s).R (copies cp tg (L.take j) s).G ->
   ∃ (P : Sta) (c : Nat), c <= 100000 /\ (Calls Tryz.prog 120 #[.pointer (some ⟨r, 0, none⟩), .int .i64 (L[j] : Int), .bool true] W fun e w' => e = .returned (.int .i64 (c : Int)) /\ RX K2 J2 w' r P.M P.R P.G /\ Kept K2 W w') /\
   ∀ V, RX K2 J2 V r P.M P.R P.G -> Calls Tryz.prog 94 #[.pointer (some ⟨r, 0, none⟩), .int .i64 (tg : Int), .int .i64 (c : Int), .int .i64 (-1)] V fun e w' => e = .returned (.int .i64 0) /\ RX K2 J2 w' r (copies cp tg (L.take (j + 1)) s).M (copies cp tg (L.take (j + 1)) s).R (copies cp tg (L.take (j + 1)) s).G /\ Kept K2 V w') := by
  refine (show Hid _ from ?_)
  intro j hj W hW
  have hmem : L[j] ∈ L := List.getElem_mem hj
  obtain ⟨x1, x2, x4, x5⟩ := hl _ hmem
  have hlt := zok (nf := nf) L hj
  have hhs := hh (fun e => absurd hj (by rw [e]; exact Nat.not_lt_zero _))
  have hD := zbn i hL tg ht (L.take j) s (fun k hk => hl k (List.mem_of_mem_take hk)) ho hs htn hhs (by omega)
  have hqn := hD.n
  have ho2 := ho.next hD.keeps ht
  have ex : (copies cp tg (L.take j) s).M.nd L[j] = M0.nd L[j] := ho2.nd _ x1
  have hd := hL _ x1 x2 x5 _ ho2 hD.ok (by omega)
  obtain ⟨f1, f2, f3⟩ := hd.fits (tg := tg) hD.ok (by have := hD.keeps.n; omega) (by rw [hD.keeps.nd tg htn]; exact hhs) (by rw [ex]; exact x4) (by rw [ex]; exact x5)
  have hc := hd.c
  have hmn := hd.mid.n
  refine ⟨(cp (copies cp tg (L.take j) s) L[j]).1, (copies cp tg (L.take j) s).M.n, by omega, hRL _ x1 x2 x5 _ ho2 hD.ok (by omega) K2 J2 W hW, fun V hV => ?_⟩
  have rp := zl1 hV hd.mid.ok (by omega) f1 f2 f3
  have e1 : copies cp tg (L.take (j + 1)) s = ((cp (copies cp tg (L.take j) s) L[j]).1).put tg (cp (copies cp tg (L.take j) s) L[j]).2 := by
   rw [List.take_succ_eq_append_getElem hj, zen]
   rfl
  rw [e1]
  rw [hc] at rp ⊢
  exact rp
 clear hY hl hh hr hL hRL hI2 hX2 hsub hfree hfl hm eR hLL hka hg ho hs htn ht hu hsn
 go_enter Tryz.func192, Tryz.ntmps192
 go_upto_region 2 with fail
 go_loopg [7] fl (fun gh v wr => ∃ j : Nat, gh = fl - j /\ j <= fl /\ v = .int .i64 (j : Int) /\ RX K2 J2 wr r (copies cp tg (L.take j) s).M (copies cp tg (L.take j) s).R (copies cp tg (L.take j) s).G /\ Kept K2 w wr)
 case atStart => exact ⟨0, rfl, Nat.zero_le _, rfl, HX2.out, Kept.refl _ _⟩
 case round =>
  obtain ⟨j, hgj, hj, rfl, hX, hK⟩ := hrel
  have HK : Hid (Kept K2 w wr) := hK
  by_cases hlt : j < fl
  ·have hjL : j < L.length := by rw [HFL.out]; exact hlt
   obtain ⟨b, o, rfl, hb, dd⟩ := HI2.out j hjL
   obtain ⟨P, c, hc9, r1, r2⟩ := HST.out j hjL wr hX
   have dw : wr.cell? ⟨b, o + j, none⟩ = some (.int .i64 (L[j] : Int)) := (hK.cell (p := ⟨b, o + j, none⟩) hb).trans dd
   obtain ⟨x, hx⟩ : ∃ x, L[j] = x := ⟨_, rfl⟩
   rw [hx] at r1 dw
   have HR2 : Hid _ := r2
   clear hX hK hb dd hx r2 hjL
   go_wp2_with fail
   refine r1.mono ?_
   rintro e w1 ⟨rfl, hX1, k1⟩
   have r2 := HR2.out w1 hX1
   have HK1 : Hid (Kept K2 w w1) := HK.out.trans k1
   clear r1 hX1 k1 HK
   go_wp2_with fail
   refine r2.mono ?_
   rintro e w2 ⟨rfl, hX2, k2⟩
   have HX2' : Hid _ := hX2
   have HK2 : Hid (Kept K2 w w2) := HK1.out.trans k2
   clear r2 hX2 k2 HK1
   go_wp2
   go_roundg (fl - (j + 1))
   case rel => exact ⟨j + 1, rfl, by omega, by go_num, HX2'.out, HK2.out⟩
   case measure => omega
  ·have hjn : j = fl := by omega
   have hall : L.take j = L := List.take_of_length_le (by rw [HFL.out]; omega)
   rw [hall] at hX
   have HX : Hid (RX K J wr r (copies cp tg L s).M (copies cp tg L s).R (copies cp tg L s).G) := HFREE.out _ _ _ _ hX
   have HKF : Hid (Kept K w wr) := hK.mono HSUB.out
   clear hX hK hall hjn
   go_wp2
   go_end0
   exact ⟨rfl, HX.out, HKF.out⟩
end
end
section
open Go.RowKit
set_option linter.unusedVariables false
set_option linter.unusedSimpArgs false
set_option maxRecDepth 100000
set_option maxHeartbeats 2000000
theorem enter97 (args : Array Value) (X : World) : (callFunc 97 args).run Tryz.prog X = .ok (.enter 97 args) X := za0 Tryz.func97 (by kernel_rfl) (c := _) rfl args X
theorem enter192 (args : Array Value) (X : World) : (callFunc 192 args).run Tryz.prog X = .ok (.enter 192 args) X := za0 Tryz.func192 (by kernel_rfl) (c := _) rfl args X
section
variable {P : Program} {ops : Array Oper} {Q : Exit -> Act -> World -> Prop} {md : Region.Mode} {S : World -> Prop} {fuel : Nat} {listed : Array Bool} {a : Act} {w : World}
theorem opW (i : Nat) {o : Oper} (hi : ops[i]? = some o) (hr : Region.ready md ops listed = [i]) (hw : Region.wanted o (yielded ops a.tmps) = true)
  (h : ∀ K' : Act -> World -> Prop, Hid (∀ a w, S w -> (S w -> wpAnyH P md ops Q S fuel (listed.setIfInBounds i true) a w) -> K' a w) -> Oper.wp P o a w K' Q) : wpAnyH P md ops Q S (fuel + 1) listed a w := by
 refine wpAnyH_ready hr (by simp) (AllReadyH.cons hi (fun Kx hK => ?_) AllReadyH.nil)
 rw [if_pos hw]
 exact h Kx hK.out
end
theorem zml {P : Program} {o : Oper} {a : Act} {w : World} {K : Act -> World -> Prop} {Q : Exit -> Act -> World -> Prop} {v : Value} (h1 : (execOp a.eval o).run P w = .ok (.value v) w) (h : K (a.put o.dst v) w) : Oper.wp P o a w K Q := by
 unfold Oper.wp
 rw [h1]
 exact h
def Zrs (r m : Nat) (Y : World) (i f : Nat) (v : Value) : Prop := ∃ g nc, Y.cell? ⟨r, 1, none⟩ = some (.slice (some ⟨g, 0, none⟩) m nc) /\ Y.cell? ⟨g, i * 14 + f, none⟩ = some v
theorem zhb (r i c n1 q qc t m1 m3 : Nat) (deep cl : Bool) (fl : Fg) (K : Nat -> Prop) (Q1 Q2 QS QC QD : World -> Prop) (w : World) (g nc m : Nat) (hKl : ∀ k, K k -> k < w.heap.size)
  (c1 : w.cell? ⟨r, 1, none⟩ = some (.slice (some ⟨g, 0, none⟩) m nc)) (him : i < m) (hm5 : m <= 100000) (hm1 : m1 <= 100000) (hm3 : m3 <= 100000) (hc9 : c < m3)
  (cx : List Value) (hcx : cx.length = 14) (hone : cx.toArray.all (·.oneCell') = true) (hrange : w.rangeAt g (i * 14) cx)
  (kd : Int) (S D : ByteArray) (aa : Option Addr) (an ac : Nat) (sh co : Int) (x0 : cx[0]? = some (.int .u8 kd)) (x1 : cx[1]? = some (.string S)) (x2 : cx[2]? = some (.string D)) (x3 : cx[3]? = some (.slice aa an ac)) (x6 : cx[6]? = some (.int .i64 sh)) (x8 : cx[8]? = some (.int .i64 co))
  (C1 : ∀ V, Kept (fun k => k < w.heap.size) w V -> w.heap.size < V.heap.size -> Calls Tryz.prog 106 #[.pointer (some ⟨r, 0, none⟩), .agg (zar kd S D aa an ac)] V fun e w' => e = .returned (.tuple #[.int .i64 (c : Int), .int .i64 0]) /\ Q1 w' /\ Kept (fun k => K k \/ k = w.heap.size) V w')
  (st1 : ∀ X Y, Q1 X -> Kept (fun k => k < X.heap.size) X Y -> Q1 Y) (stS : ∀ X Y, QS X -> Kept (fun k => k < X.heap.size) X Y -> QS Y)
  (hsh : (sh = -1 /\ cl = false) \/ (sh = (q : Int) /\ cl = fl.e /\ q < m1))
  (D1 : sh = (q : Int) -> ∀ Y, Q1 Y -> ∃ g nc, Y.cell? ⟨r, 1, none⟩ = some (.slice (some ⟨g, 0, none⟩) m1 nc) /\ Y.rangeAt g (q * 14 + 9) [.bool fl.a, .bool fl.b, .bool fl.c, .bool fl.d, .bool fl.e])
  (C2 : cl = true -> ∀ Y, Q1 Y -> Calls Tryz.prog 97 #[.pointer (some ⟨r, 0, none⟩), .int .i64 (c : Int), fgV fl] Y fun e w' => e = .returned (.tuple #[.int .i64 (n1 : Int), .int .i64 0]) /\ Q2 w' /\ Kept (fun k => K k \/ k = w.heap.size) Y w')
  (C3 : cl = true -> ∀ Y, Q2 Y -> Calls Tryz.prog 192 #[.pointer (some ⟨r, 0, none⟩), .int .i64 (q : Int), .int .i64 (n1 : Int)] Y fun e w' => e = .returned (.tuple #[]) /\ QS w' /\ Kept (fun k => K k \/ k = w.heap.size) Y w')
  (C3' : cl = false -> ∀ Y, Q1 Y -> QS Y)
  (hco : (co = -1) \/ co = (qc : Int))
  (D4 : deep = true -> co = (qc : Int) -> ∀ Y, QS Y -> Zrs r m3 Y c 8 (.int .i64 (t : Int)))
  (C4 : deep = true -> co = (qc : Int) -> ∀ Y, QS Y -> Calls Tryz.prog 192 #[.pointer (some ⟨r, 0, none⟩), .int .i64 (qc : Int), .int .i64 (t : Int)] Y fun e w' => e = .returned (.tuple #[]) /\ QC w' /\ Kept (fun k => K k \/ k = w.heap.size) Y w')
  (C4' : co = -1 -> ∀ Y, QS Y -> QC Y)
  (C5 : deep = true -> ∀ Y, QC Y -> Calls Tryz.prog 192 #[.pointer (some ⟨r, 0, none⟩), .int .i64 (i : Int), .int .i64 (c : Int)] Y fun e w' => e = .returned (.tuple #[]) /\ QD w' /\ Kept (fun k => K k \/ k = w.heap.size) Y w') :
  Calls Tryz.prog 120 #[.pointer (some ⟨r, 0, none⟩), .int .i64 (i : Int), .bool deep] w fun e w' => e = .returned (.int .i64 (c : Int)) /\ (deep = true -> QD w') /\ (deep = false -> QS w') /\ Kept K w w' := by
 obtain ⟨V0, hA⟩ : ∃ V0, w.alloc (.cells za2 58) = V0 := ⟨_, rfl⟩
 obtain ⟨N, hN⟩ : ∃ N, w.heap.size = N := ⟨_, rfl⟩
 have hBA : V0.heap[N]? = some (.cells za2 58 (0, 0)) := by rw [<- hA, <- hN]; exact heap_alloc_new w _
 have hKA : Kept (fun k => k < w.heap.size) w V0 := by rw [<- hA]; exact (Kept.refl _ w).alloc (fun _ h => h) _
 obtain ⟨V, hV⟩ : ∃ V, V0.setRow N cx.toArray = V := ⟨_, rfl⟩
 have hb6 : V.heap[N]? = some (.cells cx.toArray 58 (0, 0)) := by rw [<- hV]; exact setRow_heap _ _ _ _ _ _ hBA
 have hKV : Kept (fun k => k < w.heap.size) w V := by rw [<- hV]; exact zaq hKA (by rw [hN]; exact Nat.lt_irrefl _) _
 have r1 := C1 V hKV (by rw [hN]; exact zad hb6)
 obtain ⟨K1, hK1⟩ : ∃ K1 : Nat -> Prop, K1 = fun k => K k \/ k = N := ⟨_, rfl⟩
 rw [hN] at C1 C2 C3 C4 C5 r1
 rw [<- hK1] at C1 C2 C3 C4 C5 r1
 have HKN : Hid (K1 N) := by rw [hK1]; exact (show Hid _ from .inr rfl)
 have HKK : Hid (∀ k, K k -> K1 k) := by rw [hK1]; exact fun k h => .inl h
 have HKV : Hid (Kept K w V) := hKV.mono hKl
 have HNB : Hid (∀ f v, cx[f]? = some v -> ∀ Y, Kept K1 V Y -> Y.cell? ⟨N, f, none⟩ = some v) := fun f v hf Y hY => (hY.cell (p := ⟨N, f, none⟩) HKN.out).trans (by rw [zaa hb6]; simpa using hf)
 have HC2 : Hid _ := C2
 have HC3 : Hid _ := C3
 have HC3' : Hid _ := C3'
 have HD1 : Hid _ := D1
 have HD4 : Hid _ := D4
 have HC4 : Hid _ := C4
 have HC4' : Hid _ := C4'
 have HC5 : Hid _ := C5
 have HS1 : Hid _ := st1
 have HSS : Hid _ := stS
 have HA : Hid (w.alloc (.cells za2 58) = V0) := hA
 have HN : Hid (w.heap.size = N) := hN
 have HV : Hid (V0.setRow N cx.toArray = V) := hV
 have b0 : V.cell? ⟨N, 0, none⟩ = some (.int .u8 kd) := HNB.out 0 _ x0 V (Kept.refl _ _)
 have b1 : V.cell? ⟨N, 1, none⟩ = some (.string S) := HNB.out 1 _ x1 V (Kept.refl _ _)
 have b2 : V.cell? ⟨N, 2, none⟩ = some (.string D) := HNB.out 2 _ x2 V (Kept.refl _ _)
 have b3 : V.cell? ⟨N, 3, none⟩ = some (.slice aa an ac) := HNB.out 3 _ x3 V (Kept.refl _ _)
 have B6 : Hid (∀ Y, Kept K1 V Y -> Y.cell? ⟨N, 6, none⟩ = some (.int .i64 sh)) := HNB.out 6 _ x6
 have B8 : Hid (∀ Y, Kept K1 V Y -> Y.cell? ⟨N, 8, none⟩ = some (.int .i64 co)) := HNB.out 8 _ x8
 have hsz : (Tryz.prog.info? 58).map (·.size) = some cx.length := by rw [hcx]; rfl
 have HZZ : Hid ((14 : Nat) = cx.toArray.size) := by rw [List.size_toArray, hcx]; exact rfl
 have hbt := zix kd S D aa an ac
 clear C1 C2 C3 C3' D1 D4 C4 C4' C5 st1 stS hA hN hV hKA hKV hKl hK1 x0 x1 x2 x3 x6 x8 HNB hb6 hcx
 go_enter Tryz.func120, Tryz.ntmps120
 go_upto_region 2 with (first | (refine wpList_load_mid rfl 58 _ rfl g (i * 14) rfl cx _ hrange Tryz.underlying58 rfl hsz ?_) | (rw [HA.out, HN.out]; refine wpList_store_row rfl 58 _ _ rfl N cx.toArray rfl rfl 58 _ hBA (by rw [List.size_toArray]; exact hsz) HZZ.out hone ?_))
 rw [HV.out]
 clear hrange hBA HA HV hone hsz HZZ c1
 go_wp2_with fail
 refine r1.mono ?_
 rintro e w1 ⟨rfl, hQ1, k1⟩
 have HQ1 : Hid (Q1 w1) := hQ1
 have HK1 : Hid (Kept K1 V w1) := k1
 clear r1 b0 b1 b2 b3 hbt hQ1 k1
 go_upto_region 3 with fail
 go_cut [47] (fun v wx => v = .bool cl /\ Q1 wx /\ Kept K1 V wx)
 case first =>
  have s6 := B6.out w1 HK1.out
  rcases hsh with ⟨rfl, rfl⟩ | ⟨rfl, rfl, hq1⟩
  ·have e1 : decide ((-1 : Int) >= 0) = false := by decide
   go_quiet (fail)
   go_wp2_with fail
   go_meet
   case rel => exact ⟨rfl, HS1.out _ _ HQ1.out ((Kept.refl _ _).drewN nq), HK1.out.drewN nq⟩
  ·have e1 : decide ((q : Int) >= 0) = true := decide_eq_true (by omega)
   obtain ⟨g1, nc1, d1, d2⟩ := HD1.out rfl w1 HQ1.out
   have d5 : w1.cell? ⟨g1, q * 14 + 9 + 4, none⟩ = some (.bool fl.e) := d2 4 _ rfl
   clear d2
   go_quiet (fail)
   go_wp2_with fail
   go_meet
   case rel => exact ⟨rfl, HS1.out _ _ HQ1.out ((Kept.refl _ _).drewN nq), HK1.out.drewN nq⟩
 case rest =>
  clear HQ1 HK1
  obtain ⟨rfl, hQ1, hk1⟩ := hcut
  have HQ1 : Hid (Q1 wc) := hQ1
  have HK1 : Hid (Kept K1 V wc) := hk1
  clear hQ1 hk1
  go_upto_if 47 with fail
  go_cut [] (fun wx => QS wx /\ Kept K1 V wx)
  case first =>
   cases cl with
   | false =>
    have hS := HC3'.out rfl wc HQ1.out
    go_wp2_with fail
    go_meet
    case rel => exact ⟨hS, HK1.out⟩
   | true =>
    rcases hsh with ⟨rfl, h⟩ | ⟨rfl, hfe, hq1⟩
    ·cases h
    clear hfe
    have hQD : Q1 wc.drew := HS1.out _ _ HQ1.out ((Kept.refl _ _).drew)
    obtain ⟨g1, nc1, d1, d2⟩ := HD1.out rfl wc.drew hQD
    have r2 := HC2.out rfl wc.drew hQD
    have HKD : Hid (Kept K1 V wc.drew) := HK1.out.drew
    have hsz5 : (Tryz.prog.info? 48).map (·.size) = some ([Value.bool fl.a, .bool fl.b, .bool fl.c, .bool fl.d, .bool fl.e] : List Value).length := by kernel_rfl
    clear hQD
    go_upto_region 4 with fail
    refine wp_region_held_drew (S := fun Y => Kept K1 V Y) (by kernel_rfl) HKD.out (fun hHeld => ?_)
    refine tkH 0 49 (.pointer (some ⟨r, 0, none⟩)) rfl rfl (by kernel_rfl) (by rfl) (by intro Y hY; go_simp; try with_reducible rfl) (fun _ _ _ h => h) hHeld ?_
    try simp only [Act.put, List.setIfInBounds_toArray, List.set_cons_zero, List.set_cons_succ]
    refine tkH 1 50 (.int .i64 (c : Int)) rfl rfl (by kernel_rfl) (by rfl) (by intro Y hY; go_simp; try with_reducible rfl) (fun _ _ _ h => h) hHeld ?_
    try simp only [Act.put, List.setIfInBounds_toArray, List.set_cons_zero, List.set_cons_succ]
    refine tkH 2 51 (.pointer (some ⟨r, 0, none⟩)) rfl rfl (by kernel_rfl) (by rfl) (by intro Y hY; go_simp; try with_reducible rfl) (fun _ _ _ h => h) hHeld ?_
    try simp only [Act.put, List.setIfInBounds_toArray, List.set_cons_zero, List.set_cons_succ]
    refine tkH 3 52 (.pointer (some ⟨r, 0, none⟩)) rfl rfl (by kernel_rfl) (by rfl) (by intro Y hY; go_simp; try with_reducible rfl) (fun _ _ _ h => h) hHeld ?_
    try simp only [Act.put, List.setIfInBounds_toArray, List.set_cons_zero, List.set_cons_succ]
    refine tkH 4 53 (.pointer (some ⟨r, 1, none⟩)) rfl rfl (by kernel_rfl) (by rfl) (by intro Y hY; go_simp; try with_reducible rfl) (fun _ _ _ h => h) hHeld ?_
    try simp only [Act.put, List.setIfInBounds_toArray, List.set_cons_zero, List.set_cons_succ]
    refine tkH 6 55 (.pointer (some ⟨N, 6, none⟩)) rfl rfl (by kernel_rfl) (by rfl) (by intro Y hY; go_simp; try with_reducible rfl) (fun _ _ _ h => h) hHeld ?_
    try simp only [Act.put, List.setIfInBounds_toArray, List.set_cons_zero, List.set_cons_succ]
    refine tkH 7 56 (.int .i64 (q : Int)) rfl rfl (by kernel_rfl) (by rfl) (by intro Y hY; have hc := B6.out Y hY; go_simp; try with_reducible rfl) (fun _ _ _ h => h) hHeld ?_
    try simp only [Act.put, List.setIfInBounds_toArray, List.set_cons_zero, List.set_cons_succ]
    refine opW 5 rfl (by kernel_rfl) (by rfl) (fun K' hK => ?_)
    refine zml (v := (.slice (some ⟨g1, 0, none⟩) m1 nc1)) (by have hc := d1; go_simp; try with_reducible rfl) ?_
    show K' (Act.put _ (some 54) _) _
    refine hK.out _ _ HKD.out (fun hHeld2 => ?_)
    clear hK hHeld
    replace hHeld := hHeld2
    clear hHeld2
    try simp only [Act.put, List.setIfInBounds_toArray, List.set_cons_zero, List.set_cons_succ]
    refine tkH 8 57 (.pointer (some ⟨g1, q * 14, none⟩)) rfl rfl (by kernel_rfl) (by rfl) (by intro Y hY; go_simp; try with_reducible rfl) (fun _ _ _ h => h) hHeld ?_
    try simp only [Act.put, List.setIfInBounds_toArray, List.set_cons_zero, List.set_cons_succ]
    refine tkH 9 58 (.pointer (some ⟨g1, q * 14 + 9, none⟩)) rfl rfl (by kernel_rfl) (by rfl) (by intro Y hY; go_simp; try with_reducible rfl) (fun _ _ _ h => h) hHeld ?_
    try simp only [Act.put, List.setIfInBounds_toArray, List.set_cons_zero, List.set_cons_succ]
    refine opW 10 rfl (by kernel_rfl) (by rfl) (fun K' hK => ?_)
    refine wp_load_mid 48 _ rfl g1 (q * 14 + 9) rfl _ _ d2 Tryz.underlying48 rfl hsz5 ?_
    show K' (Act.put _ (some 59) _) _
    refine hK.out _ _ HKD.out (fun hHeld2 => ?_)
    clear hK hHeld
    replace hHeld := hHeld2
    clear hHeld2
    try simp only [Act.put, List.setIfInBounds_toArray, List.set_cons_zero, List.set_cons_succ]
    refine clH 11 60 97 #[.pointer (some ⟨r, 0, none⟩), .int .i64 (c : Int), fgV fl] rfl rfl (by kernel_rfl) (by rfl) rfl (by first | rfl | (simp [Act.eval]; done) | (simp [Act.eval, Act.put]; done)) (enter97 _ _) r2 ?_
    rintro e w2 ⟨rfl, hQ2, k2⟩
    have HQ2 : Hid (Q2 w2) := hQ2
    have HK2 : Hid (Kept K1 V w2) := HKD.out.trans k2
    refine ⟨_, rfl, HK2.out, fun hHeld2 => ?_⟩
    clear hHeld r2 hQ2 k2
    replace hHeld := hHeld2
    clear hHeld2
    try simp only [Act.put, List.setIfInBounds_toArray, List.set_cons_zero, List.set_cons_succ]
    refine tkH 12 48 (.tuple #[.int .i64 (n1 : Int), .int .i64 0]) rfl rfl (by kernel_rfl) (by rfl) (by intro Y hY; go_simp; try with_reducible rfl) (fun _ _ _ h => h) hHeld ?_
    try simp only [Act.put, List.setIfInBounds_toArray, List.set_cons_zero, List.set_cons_succ]
    refine tkH 13 61 (.int .i64 (n1 : Int)) rfl rfl (by kernel_rfl) (by rfl) (by intro Y hY; go_simp; try with_reducible rfl) (fun _ _ _ h => h) hHeld ?_
    try simp only [Act.put, List.setIfInBounds_toArray, List.set_cons_zero, List.set_cons_succ]
    refine tkH 14 62 (.int .i64 0) rfl rfl (by kernel_rfl) (by rfl) (by intro Y hY; go_simp; try with_reducible rfl) (fun _ _ _ h => h) hHeld ?_
    try simp only [Act.put, List.setIfInBounds_toArray, List.set_cons_zero, List.set_cons_succ]
    refine tkH 15 10 (.int .i64 (n1 : Int)) rfl rfl (by kernel_rfl) (by rfl) (by intro Y hY; go_simp; try with_reducible rfl) (fun _ _ _ h => h) hHeld ?_
    try simp only [Act.put, List.setIfInBounds_toArray, List.set_cons_zero, List.set_cons_succ]
    refine tkH 16 11 (.int .i64 0) rfl rfl (by kernel_rfl) (by rfl) (by intro Y hY; go_simp; try with_reducible rfl) (fun _ _ _ h => h) hHeld ?_
    try simp only [Act.put, List.setIfInBounds_toArray, List.set_cons_zero, List.set_cons_succ]
    refine wpAnyH_done (by kernel_rfl) ?_ _
    have s6 := B6.out w2 HK2.out
    have r3 := HC3.out rfl w2 HQ2.out
    go_wp2_with fail
    refine r3.mono ?_
    rintro e w3 ⟨rfl, hQS, k3⟩
    have HQS : Hid (QS w3) := hQS
    have HK3 : Hid (Kept K1 V w3) := HK2.out.trans k3
    clear r3 hQS k3
    go_wp2_with fail
    go_meet
    case rel => exact ⟨HQS.out, HK3.out⟩
  case rest =>
   clear HQ1 HK1
   obtain ⟨hQS, hk1⟩ := hcut
   have HQS : Hid (QS wc) := hQS
   have HK1 : Hid (Kept K1 V wc) := hk1
   clear hQS hk1
   cases deep with
   | false =>
    go_wp2
    go_ret
    exact ⟨rfl, HQS.out, HKV.out.trans (HK1.out.mono HKK.out)⟩
   | true =>
    have s8 := B8.out wc HK1.out
    rcases hco with rfl | rfl
    ·have e1 : decide ((-1 : Int) >= 0) = false := by decide
     have r5 := HC5.out rfl wc (HC4'.out rfl wc HQS.out)
     go_wp2_with fail
     refine r5.mono ?_
     rintro e w5 ⟨rfl, hQD, k5⟩
     have HQD : Hid (QD w5) := hQD
     have HK5 : Hid (Kept K1 V w5) := HK1.out.trans k5
     clear r5 hQD k5
     go_wp2
     go_ret
     exact ⟨rfl, HQD.out, HKV.out.trans (HK5.out.mono HKK.out)⟩
    ·have e1 : decide ((qc : Int) >= 0) = true := decide_eq_true (by omega)
     have hQD : QS wc.drew := HSS.out _ _ HQS.out ((Kept.refl _ _).drew)
     obtain ⟨g3, nc3, d1, d8⟩ := HD4.out rfl rfl wc.drew hQD
     have r4 := HC4.out rfl rfl wc.drew hQD
     have HKD : Hid (Kept K1 V wc.drew) := HK1.out.drew
     clear hQD
     go_upto_region 8 with fail
     refine wp_region_held_drew (S := fun Y => Kept K1 V Y) (by kernel_rfl) HKD.out (fun hHeld => ?_)
     refine tkH 0 72 (.pointer (some ⟨r, 0, none⟩)) rfl rfl (by kernel_rfl) (by rfl) (by intro Y hY; go_simp; try with_reducible rfl) (fun _ _ _ h => h) hHeld ?_
     try simp only [Act.put, List.setIfInBounds_toArray, List.set_cons_zero, List.set_cons_succ]
     refine tkH 1 73 (.pointer (some ⟨N, 8, none⟩)) rfl rfl (by kernel_rfl) (by rfl) (by intro Y hY; go_simp; try with_reducible rfl) (fun _ _ _ h => h) hHeld ?_
     try simp only [Act.put, List.setIfInBounds_toArray, List.set_cons_zero, List.set_cons_succ]
     refine tkH 2 74 (.int .i64 (qc : Int)) rfl rfl (by kernel_rfl) (by rfl) (by intro Y hY; have hc := B8.out Y hY; go_simp; try with_reducible rfl) (fun _ _ _ h => h) hHeld ?_
     try simp only [Act.put, List.setIfInBounds_toArray, List.set_cons_zero, List.set_cons_succ]
     refine tkH 3 75 (.pointer (some ⟨r, 0, none⟩)) rfl rfl (by kernel_rfl) (by rfl) (by intro Y hY; go_simp; try with_reducible rfl) (fun _ _ _ h => h) hHeld ?_
     try simp only [Act.put, List.setIfInBounds_toArray, List.set_cons_zero, List.set_cons_succ]
     refine tkH 4 76 (.pointer (some ⟨r, 0, none⟩)) rfl rfl (by kernel_rfl) (by rfl) (by intro Y hY; go_simp; try with_reducible rfl) (fun _ _ _ h => h) hHeld ?_
     try simp only [Act.put, List.setIfInBounds_toArray, List.set_cons_zero, List.set_cons_succ]
     refine tkH 5 77 (.pointer (some ⟨r, 1, none⟩)) rfl rfl (by kernel_rfl) (by rfl) (by intro Y hY; go_simp; try with_reducible rfl) (fun _ _ _ h => h) hHeld ?_
     try simp only [Act.put, List.setIfInBounds_toArray, List.set_cons_zero, List.set_cons_succ]
     refine tkH 7 79 (.int .i64 (c : Int)) rfl rfl (by kernel_rfl) (by rfl) (by intro Y hY; go_simp; try with_reducible rfl) (fun _ _ _ h => h) hHeld ?_
     try simp only [Act.put, List.setIfInBounds_toArray, List.set_cons_zero, List.set_cons_succ]
     refine opW 6 rfl (by kernel_rfl) (by rfl) (fun K' hK => ?_)
     refine zml (v := (.slice (some ⟨g3, 0, none⟩) m3 nc3)) (by have hc := d1; go_simp; try with_reducible rfl) ?_
     show K' (Act.put _ (some 78) _) _
     refine hK.out _ _ HKD.out (fun hHeld2 => ?_)
     clear hK hHeld
     replace hHeld := hHeld2
     clear hHeld2
     try simp only [Act.put, List.setIfInBounds_toArray, List.set_cons_zero, List.set_cons_succ]
     refine tkH 8 80 (.pointer (some ⟨g3, c * 14, none⟩)) rfl rfl (by kernel_rfl) (by rfl) (by intro Y hY; go_simp; try with_reducible rfl) (fun _ _ _ h => h) hHeld ?_
     try simp only [Act.put, List.setIfInBounds_toArray, List.set_cons_zero, List.set_cons_succ]
     refine tkH 9 81 (.pointer (some ⟨g3, c * 14 + 8, none⟩)) rfl rfl (by kernel_rfl) (by rfl) (by intro Y hY; go_simp; try with_reducible rfl) (fun _ _ _ h => h) hHeld ?_
     try simp only [Act.put, List.setIfInBounds_toArray, List.set_cons_zero, List.set_cons_succ]
     refine opW 10 rfl (by kernel_rfl) (by rfl) (fun K' hK => ?_)
     refine zml (v := (.int .i64 (t : Int))) (by have hc := d8; go_simp; try with_reducible rfl) ?_
     show K' (Act.put _ (some 82) _) _
     refine hK.out _ _ HKD.out (fun hHeld2 => ?_)
     clear hK hHeld
     replace hHeld := hHeld2
     clear hHeld2
     try simp only [Act.put, List.setIfInBounds_toArray, List.set_cons_zero, List.set_cons_succ]
     refine clH 11 83 192 #[.pointer (some ⟨r, 0, none⟩), .int .i64 (qc : Int), .int .i64 (t : Int)] rfl rfl (by kernel_rfl) (by rfl) rfl (by first | rfl | (simp [Act.eval]; done) | (simp [Act.eval, Act.put]; done)) (enter192 _ _) r4 ?_
     rintro e w4 ⟨rfl, hQC, k4⟩
     have HK4 : Hid (Kept K1 V w4) := HKD.out.trans k4
     have r5 := HC5.out rfl w4 hQC
     refine ⟨_, rfl, HK4.out, fun hHeld2 => ?_⟩
     clear hHeld r4 hQC k4 hHeld2
     try simp only [Act.put, List.setIfInBounds_toArray, List.set_cons_zero, List.set_cons_succ]
     refine wpAnyH_done (by kernel_rfl) ?_ _
     go_wp2_with fail
     refine r5.mono ?_
     rintro e w5 ⟨rfl, hQD, k5⟩
     have HQD : Hid (QD w5) := hQD
     have HK5 : Hid (Kept K1 V w5) := HK4.out.trans k5
     clear r5 hQD k5
     go_wp2
     go_ret
     exact ⟨rfl, HQD.out, HKV.out.trans (HK5.out.mono HKK.out)⟩
end
section
open Go.RowKit
set_option linter.unusedVariables false
set_option maxRecDepth 100000
set_option maxHeartbeats 4000000
theorem zks {M : Dm} {R G : Nat -> List Nat} {rk : Nat -> Nat} (h : Inv M R G rk) {i : Nat} (hi : i < M.n) (h5 : (M.nd i).kind ≠ 5) : (M.nd i).name.length < 1000000 := by
 by_cases k1 : (M.nd i).kind = 1
 ·have hm := (h.ex.okd i hi).2.1 k1
  have hall : ∀ n ∈ zhp, n.length < 1000000 := by decide
  exact hall _ hm
 by_cases k6 : (M.nd i).kind = 6
 ·exact h.ex.nsz i hi k6
 have hs := h.ex.snd i hi h5
 have hn : (M.nd i).name = [] := by
  unfold Nd.mk' at hs
  by_cases k4 : (M.nd i).kind = 4
  ·rw [k4, zg3] at hs
   simp at hs
   exact hs.1.1
  by_cases k2 : (M.nd i).kind = 2
  ·rw [k2, zgm] at hs
   simp at hs
   exact hs.1
  rw [zfa _ k4 k2] at hs
  unfold za7 zbb zbc at hs
  by_cases k3 : (M.nd i).kind = 3
  ·simp [k3] at hs
   exact hs.1.1
  ·simp [k1, k2, k3, k6] at hs
 rw [hn]
 exact (by decide : (0 : Nat) < 1000000)
theorem zng (l : List UInt8) : (⟨l.toArray⟩ : ByteArray).toList = l := by rw [ByteArray.toList_eq]
section
variable {M0 : Dm} {R0 G0 : Nat -> List Nat} {rk0 : Nat -> Nat} {cp : Sta -> Nat -> Sta × Nat} {nf : Nat -> Nat} {r : Nat}
theorem zog {s : Sta} (hs : s.ok) {i : Nat} (hi : i < s.M.n) (h5 : (s.M.nd i).kind ≠ 5) (hlim : s.M.limit <= 100000) (hr : s.M.n + (1 + if (s.M.nd i).content = -1 then 0 else 1) <= s.M.limit) {K J : Nat -> Prop} {V : World} (h : RX K J V r s.M s.R s.G) (aa : Option Addr) (ac : Nat) (ha : Zag (fun k => k < V.heap.size) V aa (s.M.nd i).attrs) (hac : (s.M.nd i).attrs.length <= ac) :
  Calls Tryz.prog 106 #[.pointer (some ⟨r, 0, none⟩), .agg (zar ((s.M.nd i).kind : Int) ⟨(s.M.nd i).name.toArray⟩ ⟨(s.M.nd i).data.toArray⟩ aa (s.M.nd i).attrs.length ac)] V fun e w' => e = .returned (.tuple #[.int .i64 (s.M.n : Int), .int .i64 0]) /\ RX K J w' r (s.mk1 (s.M.nd i)).M (s.mk1 (s.M.nd i)).R (s.mk1 (s.M.nd i)).G /\ Kept K V w' := by
 obtain ⟨rk, hI⟩ := hs
 have hmx : (⟨(s.M.nd i).kind, (⟨(s.M.nd i).name.toArray⟩ : ByteArray).toList, (⟨(s.M.nd i).data.toArray⟩ : ByteArray).toList, (s.M.nd i).attrs⟩ : Mk) = (s.M.nd i).mk' := by rw [zng, zng]; rfl
 have hsz : (⟨(s.M.nd i).name.toArray⟩ : ByteArray).size < 1000000 := zks hI hi h5
 have hsd := hI.ex.snd i hi h5
 have htp := hI.ex.tpl i hi
 refine (zg8 (J := J) K r (s.M.nd i).kind ⟨(s.M.nd i).name.toArray⟩ ⟨(s.M.nd i).data.toArray⟩ (s.M.nd i).attrs aa (s.M.nd i).attrs.length ac V s.M s.R s.G h (by omega) hlim rfl (by have := hI.good.few i hi; omega) hac ha (fun x hx => by have := (hI.core.atr hi x hx).1; omega) hsz).mono ?_
 rintro e w' ⟨hK, hM⟩
 rw [hmx] at hM
 have htk : ((s.M.nd i).mk'.kind = 1 /\ (s.M.nd i).mk'.name = zcw) ↔ (s.M.nd i).content ≠ -1 := ⟨fun h => htp.2 h, fun h => htp.1 h⟩
 unfold Sta.mk1
 by_cases c : (s.M.nd i).content = -1
 ·rw [if_pos c] at hr ⊢
  have hno : ¬ ((s.M.nd i).mk'.kind = 1 /\ (s.M.nd i).mk'.name = zcw) := fun h => (htk.1 h) c
  cases hM with
  | arg a => rw [hsd] at a; cases a
  | full _ a => rw [if_neg hno] at a; omega
  | two _ a => exact absurd a hno
  | one _ _ _ e hX => exact ⟨e, hX, hK⟩
 ·rw [if_neg c] at hr ⊢
  have hyes := htk.2 c
  cases hM with
  | arg a => rw [hsd] at a; cases a
  | full _ a => rw [if_pos hyes] at a; omega
  | two _ _ _ e hX => exact ⟨e, hX, hK⟩
  | one _ a => exact absurd hyes a
theorem rtab {K J : Nat -> Prop} {Y : World} {M : Dm} {R G : Nat -> List Nat} (h : RX K J Y r M R G) (hn : 0 < M.n) : ∃ g nc, Y.cell? ⟨r, 1, none⟩ = some (.slice (some ⟨g, 0, none⟩) M.n nc) /\ ∀ i, i < M.n -> ∃ aa ac ka kc, (M.nd i).attrs.length <= ac /\ Zag (fun k => k < Y.heap.size) Y aa (M.nd i).attrs /\ Y.rangeAt g (i * 14) (za1 M R i aa ac ka kc) := by
 obtain ⟨A, hY⟩ := h
 obtain ⟨g, hg, -, -, -⟩ := hY.nat hn
 refine ⟨g, A.nc, by rw [hY.c1, hg], fun i hi => ⟨A.aa i, A.ac i, A.ka i, A.kc i, hY.acl i hi, (hY.ats i hi).to (fun q hq => hq.1) (fun _ _ => rfl), fun f u hf => hY.cell hg hi f u hf⟩⟩
theorem zl7 (hI : Inv M0 R0 G0 rk0) {i : Nat} (hi : i < M0.n) (h5 : (M0.nd i).kind ≠ 5) (hL : Lev M0 R0 G0 rk0 i cp nf) (hRL : RLev r M0 R0 G0 rk0 i cp nf) (hlim : M0.limit <= 100000) (deep : Bool) (s : Sta) (ho : Old M0 R0 G0 s) (hs : s.ok) (hr : s.M.n + zb8 M0 R0 nf i deep <= M0.limit)
  (K J : Nat -> Prop) (w : World) (h : RX K J w r s.M s.R s.G) :
  Calls Tryz.prog 120 #[.pointer (some ⟨r, 0, none⟩), .int .i64 (i : Int), .bool deep] w fun e w' => e = .returned (.int .i64 (s.M.n : Int)) /\ RX K J w' r (zdm cp s i deep).M (zdm cp s i deep).R (zdm cp s i deep).G /\ Kept K w w' := by
 have hsn : M0.n <= s.M.n := ho.n
 have hsl : s.M.limit = M0.limit := ho.lim
 have ei : s.M.nd i = M0.nd i := ho.nd i hi
 have hin : i < s.M.n := by omega
 have h5s : (s.M.nd i).kind ≠ 5 := by rw [ei]; exact h5
 have hnS : zbh M0 R0 nf i <= zb8 M0 R0 nf i deep := by
  cases deep with
  | false => exact Nat.le_refl _
  | true => show _ <= za8 M0 R0 nf i + needs nf (R0 i); unfold za8; omega
 have hrS : s.M.n + zbh M0 R0 nf i <= M0.limit := by omega
 have hS := zlt hI hi h5 hL ho hs hrS
 have hm := zg1 hs hin h5s
 have hmn := hm.n
 have hlk := (zd9 (s := s) (x := s.M.nd i))
 have hneed1 : s.M.n + (1 + if (s.M.nd i).content = -1 then 0 else 1) <= M0.limit := by
  have h1 := hrS
  unfold zbh at h1
  rw [ei]
  omega
 have hcl : clon s.M (s.M.nd i) = clon M0 (M0.nd i) := by
  rw [ei]; unfold clon
  by_cases c : (M0.nd i).shadow = -1
  ·simp [c]
  ·rcases hI.core.shad i hi with e | ⟨q, hq, e, -⟩
   ·exact absurd e c
   ·rw [e, Int.toNat_natCast, ho.nd q hq]
 obtain ⟨q, fl, hsq⟩ : ∃ (q : Nat) (fl : Fg), ((M0.nd i).shadow = -1 /\ clon M0 (M0.nd i) = false) \/ ((M0.nd i).shadow = (q : Int) /\ clon M0 (M0.nd i) = fl.e /\ q < M0.n /\ fl = (M0.nd q).fl) := by
  rcases hI.core.shad i hi with e | ⟨q, hq, e, -⟩
  ·exact ⟨0, ⟨false, false, false, false, false⟩, .inl ⟨e, by unfold clon; rw [e]; rfl⟩⟩
  ·refine ⟨q, (M0.nd q).fl, .inr ⟨e, ?_, hq, rfl⟩⟩
   unfold clon
   rw [e, Int.toNat_natCast, decide_eq_true (by omega), Bool.true_and]
 have hcoz : ∃ qc : Nat, (M0.nd i).content = -1 \/ (M0.nd i).content = (qc : Int) := by
  by_cases c : (M0.nd i).content = -1
  ·exact ⟨0, .inl c⟩
  ·obtain ⟨k, -, e, -⟩ := hI.content hi c
   exact ⟨k, .inr e⟩
 obtain ⟨qc, hco⟩ := hcoz
 obtain ⟨g, nc, c1, hrow⟩ := rtab h (by omega)
 obtain ⟨aa, ac, ka, kc, hac, hat, hrg⟩ := hrow i hin
 have hKl := h.lt
 obtain ⟨K1, hK1⟩ : ∃ K1 : Nat -> Prop, (fun k => K k \/ k = w.heap.size) = K1 := ⟨_, rfl⟩
 have hKK : ∀ k, K k -> K1 k := by rw [<- hK1]; exact fun k h => .inl h
 have stay : ∀ (t : Sta) (X Y : World), RX K1 J X r t.M t.R t.G -> Kept (fun k => k < X.heap.size) X Y -> RX K1 J Y r t.M t.R t.G := fun t X Y hX hk => hX.kept hk
 have hSn := hS.n
 have hrt : clon M0 (M0.nd i) = true -> ∃ (hq : q < M0.n), (M0.nd i).shadow = (q : Int) /\ fl = (M0.nd q).fl /\ rk0 i < rk0 q /\ Mid s (s.M.nd i) (1 + (if (M0.nd i).content = -1 then 0 else 1) + 1) ((s.mk1 (s.M.nd i)).rt s.M.n fl) /\ (M0.nd i).kind = 1 := fun hc => by
  rcases hsq with ⟨-, e⟩ | ⟨e1, e2, e3, e4⟩
  ·rw [hc] at e; cases e
  ·obtain ⟨q', hq', e', hrq, hm2⟩ := zj1 hI hi h5 ho hs hc
   obtain ⟨-, -, -, hk1, -⟩ := zi3 hI hi hc
   have : q' = q := by rw [e1] at e'; omega
   subst this
   rw [e4]
   exact ⟨hq', e', rfl, hrq, hm2, hk1⟩
 have hwalk := zhb r i s.M.n (s.mk1 (s.M.nd i)).M.n q qc (s.M.n + 1) (s.mk1 (s.M.nd i)).M.n (zbd cp s i).M.n deep (clon M0 (M0.nd i)) fl K
  (fun Y => RX K1 J Y r (s.mk1 (s.M.nd i)).M (s.mk1 (s.M.nd i)).R (s.mk1 (s.M.nd i)).G)
  (fun Y => RX K1 J Y r ((s.mk1 (s.M.nd i)).rt s.M.n fl).M ((s.mk1 (s.M.nd i)).rt s.M.n fl).R ((s.mk1 (s.M.nd i)).rt s.M.n fl).G)
  (fun Y => RX K1 J Y r (zbd cp s i).M (zbd cp s i).R (zbd cp s i).G)
  (fun Y => RX K1 J Y r (zbt cp s i).M (zbt cp s i).R (zbt cp s i).G)
  (fun Y => RX K1 J Y r (zdm cp s i true).M (zdm cp s i true).R (zdm cp s i true).G)
  w g nc s.M.n hKl c1 hin (by omega) (by omega) (by omega) (by have := hS.one; omega)
  (za1 s.M s.R i aa ac ka kc) rfl (by rw [List.all_toArray, List.all_eq_true]; exact zln _ _ _ _ _ _ _) hrg
  ((s.M.nd i).kind : Int) ⟨(s.M.nd i).name.toArray⟩ ⟨(s.M.nd i).data.toArray⟩ aa (s.M.nd i).attrs.length ac (s.M.nd i).shadow (s.M.nd i).content rfl rfl rfl rfl rfl rfl
 rw [hK1] at hwalk
 have hw := hwalk
  (fun V hV hsz => zog hs hin h5s (by omega) (by rw [hsl]; exact hneed1) (h.more hV (fun k hk => by rw [<- hK1] at hk; exact hk.imp id (fun e => by omega)) (fun k hk => by
   rw [<- hK1] at hk
   rcases hk with hk | hk
   ·exact ltl (hKl k hk) hV.size
   ·omega)) aa ac (hat.to (fun q hq => ltl hq hV.size) (fun q hq => hV.block q hq)) hac)
  (fun X Y hX hk => stay _ X Y hX hk) (fun X Y hX hk => stay _ X Y hX hk)
  (by
   rcases hsq with ⟨e1, e2⟩ | ⟨e1, e2, e3, -⟩
   ·exact .inl ⟨by rw [ei]; exact e1, e2⟩
   ·exact .inr ⟨by rw [ei]; exact e1, e2, by have := hm.keeps.n; omega⟩)
  (fun e Y hY => by
   rw [ei] at e
   rcases hsq with ⟨e1, -⟩ | ⟨-, -, e3, e4⟩
   ·rw [e1] at e; omega
   ·have hq1 : q < (s.mk1 (s.M.nd i)).M.n := by have := hm.keeps.n; omega
    obtain ⟨g, nc, c1, hrow⟩ := rtab hY (by omega)
    obtain ⟨aa, ac, ka, kc, -, -, hrg⟩ := hrow q hq1
    have enq : (s.mk1 (s.M.nd i)).M.nd q = M0.nd q := (hm.keeps.nd q (by omega)).trans (ho.nd q e3)
    refine ⟨g, nc, c1, fun f u hf => ?_⟩
    have hfl : f < 5 := by
     rcases Nat.lt_or_ge f 5 with g | g
     ·exact g
     ·rw [List.getElem?_eq_none (by simpa using g)] at hf; cases hf
    have := hrg (9 + f) u (by
     rw [e4, <- enq] at hf
     match f, hfl with
     | 0, _ => exact hf
     | 1, _ => exact hf
     | 2, _ => exact hf
     | 3, _ => exact hf
     | 4, _ => exact hf)
    rw [Nat.add_assoc]
    exact this)
  (fun hc Y hY => by
   obtain ⟨hq, e1, e4, hrq, hm2, hk1⟩ := hrt hc
   have hok := hm.ok
   obtain ⟨rk1, hI1⟩ := hok
   have hlt : s.M.n < (s.mk1 (s.M.nd i)).M.n := by omega
   have hm2n := hm2.n
   have hml : (s.mk1 (s.M.nd i)).M.limit = M0.limit := hm.keeps.lim.trans hsl
   have h1n : (s.mk1 (s.M.nd i)).M.n + 1 <= M0.limit := by
    have h1 := hrS
    unfold zbh at h1
    rw [if_pos hc] at h1
    rw [hmn, ei]
    omega
   refine (zjb (J := J) K1 r s.M.n (s.mk1 (s.M.nd i)).M (s.mk1 (s.M.nd i)).R (s.mk1 (s.M.nd i)).G fl Y hY hlt (by omega) (by omega) (.inl hlk.2.2.1)).mono ?_
   rintro e w' ⟨hK, hR⟩
   cases hR with
   | host a _ _ => exact absurd (by rw [hlk.1.kind, ei]; exact hk1) a
   | twice _ a _ _ => exact absurd hlk.2.2.1 a
   | full _ _ a _ _ => omega
   | made _ _ _ e hX => exact ⟨e, hX, hK⟩)
  (fun hc Y hY => by
   obtain ⟨hq, e1, e4, hrq, hm2, hk1⟩ := hrt hc
   have hlt : s.M.n < (s.mk1 (s.M.nd i)).M.n := by omega
   obtain ⟨r1, r2, r3, r4, r5, r6, r7⟩ := zmv (s := s.mk1 (s.M.nd i)) fl hlt
   have hm2n := hm2.n
   have eS : zbd cp s i = copies cp (s.mk1 (s.M.nd i)).M.n (R0 q) ((s.mk1 (s.M.nd i)).rt s.M.n fl) := by
    unfold zbd
    rw [hcl, if_pos hc, ei, e1, Int.toNat_natCast, ho.nd q hq, ho.r q hq (fun e => by cases e), e4]
   rw [eS]
   refine zf1 i hL hRL hq (hI.kidsOf hq (.inr hrq)) (by omega) _ (ho.trans (hm2.keeps.low ho.n)) hm2.ok (by rw [r1]; omega) (fun _ => by rw [r2]; exact zoz _ rfl) ?_ hlim K1 J Y hY
   have h1 := hrS
   unfold zbh at h1
   rw [if_pos hc, e1, Int.toNat_natCast] at h1
   rw [hm2n]
   omega)
  (fun hc Y hY => by
   have eS : zbd cp s i = s.mk1 (s.M.nd i) := by
    unfold zbd
    rw [hcl, if_neg (by rw [hc]; simp)]
   rw [eS]
   exact hY)
  (by rw [ei]; exact hco)
  (fun hd e Y hY => by
   have hc1 : s.M.n < (zbd cp s i).M.n := by have := hS.one; omega
   obtain ⟨g, nc, c1, hrow⟩ := rtab hY (by omega)
   obtain ⟨aa, ac, ka, kc, -, -, hrg⟩ := hrow s.M.n hc1
   have hct := hS.like.cont
   rw [if_neg (by rw [e]; omega)] at hct
   exact ⟨g, nc, c1, by rw [<- hct]; exact hrg 8 _ rfl⟩)
  (fun hd e Y hY => by
   rw [ei] at e
   have hc : (M0.nd i).content ≠ -1 := by rw [e]; omega
   obtain ⟨q', hq', e', -, -, -, hrq, -⟩ := hI.content hi hc
   have : q' = qc := by rw [e] at e'; omega
   subst this
   have h2 := hS.two (by rw [ei]; exact hc)
   have eC : zbt cp s i = copies cp (s.M.n + 1) (R0 q') (zbd cp s i) := by
    unfold zbt
    rw [ei, if_neg hc, e, Int.toNat_natCast, ho.r q' hq' (fun e => by cases e)]
   rw [eC]
   refine zf1 i hL hRL hq' (hI.kidsOf hq' (.inr hrq)) (by omega) _ (ho.trans (hS.keeps.low ho.n)) hS.ok (by omega) (fun _ => zop _ (hS.like.c4 (by rw [ei]; exact hc))) ?_ hlim K1 J Y hY
   subst hd
   have h1 : s.M.n + (za8 M0 R0 nf i + needs nf (R0 i)) <= M0.limit := hr
   unfold za8 at h1
   rw [if_neg hc, e, Int.toNat_natCast] at h1
   rw [hSn]
   omega)
  (fun e Y hY => by
   have eC : zbt cp s i = zbd cp s i := by
    unfold zbt
    rw [if_pos e]
   rw [eC]
   exact hY)
  (fun hd Y hY => by
   subst hd
   have h1 : s.M.n + (za8 M0 R0 nf i + needs nf (R0 i)) <= M0.limit := hr
   have hC := zo7 hI hi h5 hL ho hs (by omega)
   have hCn := hC.n
   have hC1 := hC.one
   have eD : zdm cp s i true = copies cp s.M.n (R0 i) (zbt cp s i) := by
    unfold zdm
    rw [if_pos rfl, ho.r i hi (fun e => by cases e)]
   rw [eD]
   refine zf1 i hL hRL hi (hI.kidsOf hi (.inl rfl)) ho.n _ (ho.trans (hC.keeps.low ho.n)) hC.ok (by omega) (fun hne => ?_) (by rw [hCn]; omega) hlim K1 J Y hY
   have hh : zbp (M0.nd i) = true := by
    obtain ⟨k, hk⟩ := List.exists_mem_of_ne_nil _ hne
    exact (hI.ex.kid i hi k hk).1
   unfold zbp at hh ⊢
   rw [hC.like.kind, hC.like.name, ei]; exact hh)
 refine hw.mono ?_
 rintro e w' ⟨rfl, hd1, hd2, hk⟩
 have hfin : RX K1 J w' r (zdm cp s i deep).M (zdm cp s i deep).R (zdm cp s i deep).G := by
  cases deep with
  | true => exact hd1 rfl
  | false => exact hd2 rfl
 exact ⟨rfl, hfin.more (Kept.refl _ _) (fun k hk => .inl (hKK k hk)) (fun k hk' => ltl (hKl k hk') hk.size), hk⟩
theorem zfo (hI : Inv M0 R0 G0 rk0) (hlim : M0.limit <= 100000) (r : Nat) : ∀ (f i : Nat), dn M0.n rk0 i < f -> i < M0.n -> (M0.nd i).kind ≠ 5 -> ∀ (s : Sta) (deep : Bool), Old M0 R0 G0 s -> s.ok -> s.M.n + zba M0 R0 f i deep <= M0.limit -> ∀ (K J : Nat -> Prop) (w : World), RX K J w r s.M s.R s.G ->
  Calls Tryz.prog 120 #[.pointer (some ⟨r, 0, none⟩), .int .i64 (i : Int), .bool deep] w fun e w' => e = .returned (.int .i64 (s.M.n : Int)) /\ RX K J w' r (zcm f s i deep).1.M (zcm f s i deep).1.R (zcm f s i deep).1.G /\ Kept K w w'
 | 0, i, h, _, _, _, _, _, _, _, _, _, _, _ => absurd h (Nat.not_lt_zero _)
 | f + 1, i, hf, hi, h5, s, deep, ho, hs, hr, K, J, w, h =>
  zl7 hI hi h5 (zmk hI hf) (fun k hk hrk k5 s ho hs hr K J w h => zfo hI hlim r f k (by have := zfy hk hrk; omega) hk k5 s true ho hs hr K J w h) hlim deep s ho hs hr K J w h
end
end
section
open Go.RowKit Go.Sort
set_option linter.unusedVariables false
set_option maxRecDepth 100000
set_option maxHeartbeats 4000000
theorem ziv (K : Nat -> Prop) (r : Nat) (M : Dm) (R G : Nat -> List Nat) (z : Int) (deep : Bool) (w : World) (h : RX K TT w r M R G) (hz : z < 0 \/ (M.n : Int) <= z) :
  Calls Tryz.prog 53 #[.pointer (some ⟨r, 0, none⟩), .int .i64 z, .bool deep] w fun e w' => e = .returned (.tuple #[.int .i64 0, .int .i64 80]) /\ w' = w := by
 obtain ⟨A, hY⟩ := h
 have c1 := hY.c1
 obtain ⟨m, hm⟩ : ∃ m, M.n = m := ⟨_, rfl⟩
 rw [hm] at c1 hz
 clear hY hm
 by_cases h0 : z < 0
 ·have e0 : decide (z < 0) = true := decide_eq_true h0
  clear hz h0
  go_enter Tryz.func53, Tryz.ntmps53
  go_wp2
  go_ret2
  exact ⟨rfl, rfl⟩
 ·have e0 : decide (z < 0) = false := decide_eq_false h0
  have e1 : decide (z >= (m : Int)) = true := decide_eq_true (by omega)
  clear hz h0
  go_enter Tryz.func53, Tryz.ntmps53
  go_wp2
  go_ret2
  exact ⟨rfl, rfl⟩
inductive Zrm (K : Nat -> Prop) (r : Nat) (M : Dm) (R G : Nat -> List Nat) (f i : Nat) (deep : Bool) (e : Ending) (w' : World) : Prop
 | shadow : (M.nd i).kind = 5 -> e = .returned (.tuple #[.int .i64 0, .int .i64 81]) -> RX K TT w' r M R G -> Zrm K r M R G f i deep e w'
 | full : (M.nd i).kind ≠ 5 -> M.limit < M.n + zba M R f i deep -> e = .returned (.tuple #[.int .i64 0, .int .i64 3]) -> RX K TT w' r M R G -> Zrm K r M R G f i deep e w'
 | made : (M.nd i).kind ≠ 5 -> M.n + zba M R f i deep <= M.limit -> e = .returned (.tuple #[.int .i64 (M.n : Int), .int .i64 0]) -> RX K TT w' r (zcm f ⟨M, R, G⟩ i deep).1.M (zcm f ⟨M, R, G⟩ i deep).1.R (zcm f ⟨M, R, G⟩ i deep).1.G -> Zrm K r M R G f i deep e w'
theorem zfw {K : Nat -> Prop} {r : Nat} {M : Dm} {R G : Nat -> List Nat} {rk : Nat -> Nat} (hI : Inv M R G rk) (hlim : M.limit <= 100000) (hle : M.n <= M.limit) (f i : Nat) (hf : dn M.n rk i < f) (hi : i < M.n) (deep : Bool) (w : World) (h : RX K TT w r M R G) :
  Calls Tryz.prog 53 #[.pointer (some ⟨r, 0, none⟩), .int .i64 (i : Int), .bool deep] w fun e w' => Kept K w w' /\ Zrm K r M R G f i deep e w' := by
 obtain ⟨g, nc, c1, hrow⟩ := rtab h (by omega)
 obtain ⟨aa, ac, ka, kc, -, -, hrg⟩ := hrow i hi
 have c0 : w.cell? ⟨g, i * 14, none⟩ = some (.int .u8 ((M.nd i).kind : Int)) := hrg 0 _ rfl
 have rn := zh5 h hI (by omega) f i hf hi deep w (Kept.refl _ _)
 have hnd := zlz hI f hi deep
 have HKL : Hid (∀ k, K k -> k < w.heap.size) := h.lt
 have HLM : Hid (∀ X, Kept (fun k => k < w.heap.size) w X -> Calls Tryz.prog 119 #[.pointer (some ⟨r, 0, none⟩)] X fun e w' => e = .returned (.int .i64 (M.limit : Int)) /\ w' = X) := fun X hX => zf8 K r M R G X (h.kept hX)
 have HLN : Hid (∀ X, Kept (fun k => k < w.heap.size) w X -> Calls Tryz.prog 93 #[.pointer (some ⟨r, 0, none⟩)] X fun e w' => e = .returned (.int .i64 (M.n : Int)) /\ w' = X) := fun X hX => zgl K r M R G X (h.kept hX)
 have HCP : Hid ((M.nd i).kind ≠ 5 -> M.n + zba M R f i deep <= M.limit -> ∀ X, Kept (fun k => k < w.heap.size) w X -> Calls Tryz.prog 120 #[.pointer (some ⟨r, 0, none⟩), .int .i64 (i : Int), .bool deep] X fun e w' => e = .returned (.int .i64 (M.n : Int)) /\ RX K TT w' r (zcm f ⟨M, R, G⟩ i deep).1.M (zcm f ⟨M, R, G⟩ i deep).1.R (zcm f ⟨M, R, G⟩ i deep).1.G /\ Kept K X w') :=
  fun h5 hr X hX => zfo hI hlim r f i hf hi h5 ⟨M, R, G⟩ deep (Keeps.refl _ _ _) ⟨rk, hI⟩ hr K TT X (h.kept hX)
 have HRX : Hid (∀ X, Kept (fun k => k < w.heap.size) w X -> RX K TT X r M R G) := fun X hX => h.kept hX
 obtain ⟨kd, hkd⟩ : ∃ kd, (M.nd i).kind = kd := ⟨_, rfl⟩
 have HKD : Hid ((M.nd i).kind = kd) := hkd
 rw [hkd] at c0
 obtain ⟨nd, hnn⟩ : ∃ nd, zba M R f i deep = nd := ⟨_, rfl⟩
 have HND : Hid (zba M R f i deep = nd) := hnn
 rw [hnn] at rn hnd
 obtain ⟨m, hm⟩ : ∃ m, M.n = m := ⟨_, rfl⟩
 have HM : Hid (M.n = m) := hm
 obtain ⟨lm, hlm⟩ : ∃ l, M.limit = l := ⟨_, rfl⟩
 have HL : Hid (M.limit = lm) := hlm
 rw [hm] at c1 HLN hi hle hnd
 rw [hlm] at HLM hlim hle
 have e0 : decide ((i : Int) < 0) = false := decide_eq_false (by omega)
 have e1 : decide ((i : Int) >= (m : Int)) = false := decide_eq_false (by omega)
 clear hrow hrg hkd hnn hm hlm hI h hf
 by_cases k5 : kd = 5
 ·subst k5
  clear rn
  go_enter Tryz.func53, Tryz.ntmps53
  go_wp2
  go_ret2
  exact ⟨Kept.refl _ _, .shadow HKD.out rfl (HRX.out w (Kept.refl _ _))⟩
 ·have n5 : ((kd : Int) == 5) = false := by simp; omega
  go_enter Tryz.func53, Tryz.ntmps53
  go_wp2_with fail
  refine rn.mono ?_
  rintro e w1 ⟨rfl, k1⟩
  have HK1 : Hid (Kept (fun k => k < w.heap.size) w w1) := k1
  have r2 := HLM.out w1 k1
  have r3 := HLN.out w1 k1
  clear rn k1
  have hwr : IntKind.i64.wrap ((lm : Int) - (m : Int)) = (lm : Int) - (m : Int) := IntWalk.i64_in _ (by omega)
  by_cases hfit : m + nd <= lm
  ·have i1 : decide ((nd : Int) > (lm : Int) - (m : Int)) = false := decide_eq_false (by omega)
   have r4 := HCP.out (by rw [HKD.out]; exact k5) (by rw [HM.out, HND.out, HL.out]; exact hfit) w1 HK1.out
   rw [HM.out] at r4
   go_wp2_with (first | (go_at_call 119; refine r2.mono ?_; rintro e wq ⟨rfl, hwq⟩; replace hwq := hwq.symm; subst hwq) | (go_at_call 93; refine r3.mono ?_; rintro e wq ⟨rfl, hwq⟩; replace hwq := hwq.symm; subst hwq))
   refine r4.mono ?_
   rintro e w2 ⟨rfl, hX, k2⟩
   have HX : Hid _ := hX
   have HK2 : Hid (Kept K w w2) := (HK1.out.mono HKL.out).trans k2
   clear r2 r3 r4 hX k2
   go_wp2
   go_ret2
   exact ⟨HK2.out, .made (by rw [HKD.out]; exact k5) (by rw [HM.out, HND.out, HL.out]; exact hfit) (by rw [HM.out]; rfl) HX.out⟩
  ·have i1 : decide ((nd : Int) > (lm : Int) - (m : Int)) = true := decide_eq_true (by omega)
   go_wp2_with (first | (go_at_call 119; refine r2.mono ?_; rintro e wq ⟨rfl, hwq⟩; replace hwq := hwq.symm; subst hwq) | (go_at_call 93; refine r3.mono ?_; rintro e wq ⟨rfl, hwq⟩; replace hwq := hwq.symm; subst hwq))
   go_ret2
   exact ⟨HK1.out.mono HKL.out, .full (by rw [HKD.out]; exact k5) (by rw [HM.out, HND.out, HL.out]; omega) rfl (HRX.out _ HK1.out)⟩
theorem zkb {M : Dm} {R G : Nat -> List Nat} {rk : Nat -> Nat} (hI : Inv M R G rk) (hlim : M.limit <= 100000) (hle : M.n <= M.limit) (k : Int) (deep : Bool) : ∃ (v z : Int) (M' : Dm) (R' G' : Nat -> List Nat) (rk' : Nat -> Nat), Inv M' R' G' rk' /\ M'.limit = M.limit /\ M'.n <= M'.limit /\ (0 <= z /\ z <= 200) /\
  (∀ K w p, DX K w p M -> Calls Tryz.prog 52 #[.pointer (some ⟨p, 0, none⟩), .int .i64 k, .bool deep] w fun e w' => e = .returned (.tuple #[.int .i64 v, .int .u16 z]) /\ DX K w' p M' /\ Kept K w w') /\
  (∀ K w r, RX K TT w r M R G -> Calls Tryz.prog 53 #[.pointer (some ⟨r, 0, none⟩), .int .i64 k, .bool deep] w fun e w' => e = .returned (.tuple #[.int .i64 v, .int .i64 z]) /\ RX K TT w' r M' R' G' /\ Kept K w w') := by
 by_cases hno : k < 0 \/ (M.n : Int) <= k
 ·refine ⟨0, 80, M, R, G, rk, hI, rfl, hle, ⟨by decide, by decide⟩, fun K w p h => (zki K p M k deep w h hno (by omega)).mono ?_, fun K w r h => (ziv K r M R G k deep w h hno).mono ?_⟩
  ·rintro e w' ⟨rfl, hk⟩; exact ⟨rfl, h.kept hk, hk.mono h.lt⟩
  ·rintro e w' ⟨rfl, rfl⟩; exact ⟨rfl, h, Kept.refl _ _⟩
 ·obtain ⟨i, hi, rfl⟩ : ∃ i : Nat, i < M.n /\ k = (i : Int) := ⟨k.toNat, by omega, by omega⟩
  obtain ⟨f, hf⟩ : ∃ f, dn M.n rk i < f := ⟨_, Nat.lt_succ_self _⟩
  by_cases h5 : (M.nd i).kind = 5
  ·refine ⟨0, 81, M, R, G, rk, hI, rfl, hle, ⟨by decide, by decide⟩, fun K w p h => (zed hI hlim hle f i hf hi deep w h).mono ?_, fun K w r h => (zfw hI hlim hle f i hf hi deep w h).mono ?_⟩
   ·rintro e w' ⟨hk, hc⟩
    cases hc with
    | shadow _ e hX => exact ⟨e, hX, hk⟩
    | full a => exact absurd h5 a
    | made a => exact absurd h5 a
   ·rintro e w' ⟨hk, hc⟩
    cases hc with
    | shadow _ e hX => exact ⟨e, hX, hk⟩
    | full a => exact absurd h5 a
    | made a => exact absurd h5 a
  ·by_cases hfit : M.n + zba M R f i deep <= M.limit
   ·have hd := ze8 hI f i hf hi h5 ⟨M, R, G⟩ deep (Keeps.refl _ _ _) ⟨rk, hI⟩ hfit
    obtain ⟨rk', hI'⟩ := hd.mid.ok
    have hl := hd.mid.keeps.lim
    have hn := hd.mid.n
    refine ⟨(M.n : Int), 0, _, _, _, rk', hI', hl, by rw [hl, hn]; exact hfit, ⟨by decide, by decide⟩, fun K w p h => (zed hI hlim hle f i hf hi deep w h).mono ?_, fun K w r h => (zfw hI hlim hle f i hf hi deep w h).mono ?_⟩
    ·rintro e w' ⟨hk, hc⟩
     cases hc with
     | shadow a => exact absurd a h5
     | full _ a => omega
     | made _ _ e hX => exact ⟨e, hX, hk⟩
    ·rintro e w' ⟨hk, hc⟩
     cases hc with
     | shadow a => exact absurd a h5
     | full _ a => omega
     | made _ _ e hX => exact ⟨e, hX, hk⟩
   ·refine ⟨0, 3, M, R, G, rk, hI, rfl, hle, ⟨by decide, by decide⟩, fun K w p h => (zed hI hlim hle f i hf hi deep w h).mono ?_, fun K w r h => (zfw hI hlim hle f i hf hi deep w h).mono ?_⟩
    ·rintro e w' ⟨hk, hc⟩
     cases hc with
     | shadow a => exact absurd a h5
     | full _ _ e hX => exact ⟨e, hX, hk⟩
     | made _ a => exact absurd a hfit
    ·rintro e w' ⟨hk, hc⟩
     cases hc with
     | shadow a => exact absurd a h5
     | full _ _ e hX => exact ⟨e, hX, hk⟩
     | made _ a => exact absurd a hfit
theorem zra (l : List Opx) (n : Nat) (hln : l.length = n) (hnn : n <= 60) (a : Option Addr) (c : Nat) (hok : ∀ o ∈ l, Zmt o) (hb : zdg l <= 6000) (sl : List Int) (sn : Nat) (hsn : sl.length = sn) (hs9 : sn <= 20) (sa : Option Addr) (sc : Nat) (deep : Bool)
  (w : World) (h : Zf4 (fun k => k < w.heap.size) w a l) (hS : Zbo (fun k => k < w.heap.size) w sa sl) :
  Calls Tryz.prog 7 #[.slice a n c, .slice sa sn sc, .bool deep] w fun e w' => e = .returned (.bool true) /\ Kept (fun k => k < w.heap.size) w w' := by
 have rh := ziy l n hln hnn a c (by omega) w h
 rw [decide_eq_false (by omega : ¬ 6000 < zdg l)] at rh
 have hg20 : decide ((sn : Int) > 20) = false := decide_eq_false (by omega)
 have RG : Hid (∀ X, Kept (fun k => k < w.heap.size) w X -> Calls Tryz.prog 51 #[.slice a n c] X fun e w' => ∃ p r E M R G rk, e = .returned (.tuple #[.pointer (some ⟨p, 0, none⟩), .pointer (some ⟨r, 0, none⟩)]) /\ Grown (fun k => k < X.heap.size) E w' p r M R G rk 300 /\ Kept (fun k => k < X.heap.size) X w') := fun X hX => zp9 l n hln (by omega) a c hok (by omega) X (h.kept hX fun k hk => ltl hk hX.size)
 have HS : Hid (Zbo (fun k => k < w.heap.size) w sa sl) := hS
 have HSL : Hid (sl.length = sn) := hsn
 clear hln hok hb h hnn hS hsn
 go_enter Tryz.func7, Tryz.ntmps7
 go_wp2_with fail
 refine rh.mono ?_
 rintro e w1 ⟨rfl, k1⟩
 have HK1 : Hid (Kept (fun k => k < w.heap.size) w w1) := k1
 have rk := zes w1
 clear rh k1
 go_wp2_with fail
 refine rk.mono ?_
 rintro e w3 ⟨rfl, k3⟩
 have HK3 : Hid (Kept (fun k => k < w.heap.size) w w3) := kt HK1.out k3
 have rg := RG.out w3 HK3.out
 clear rk k3 HK1 RG hg20
 go_wp2_with fail
 refine rg.mono ?_
 rintro e W ⟨p, r, E, M, R, G, rk, rfl, hG, hK4⟩
 have HG : Hid (Grown (fun k => k < w3.heap.size) E W p r M R G rk 300) := hG
 have HK4 : Hid (Kept (fun k => k < w3.heap.size) w3 W) := hK4
 clear rg hG hK4
 go_upto_region 7 with fail
 go_loopg [9] sn (fun gh v wr => ∃ (j : Nat) (E : Nat -> Prop) (M : Dm) (R G : Nat -> List Nat) (rk : Nat -> Nat), gh = sn - j /\ j <= sn /\ v = .int .i64 (j : Int) /\ Grown (fun k => k < w3.heap.size) E wr p r M R G rk 300 /\ Kept (fun k => k < w3.heap.size) w3 wr)
 case atStart => exact ⟨0, E, M, R, G, rk, rfl, Nat.zero_le _, rfl, HG.out, HK4.out⟩
 case round =>
  clear HG HK4
  obtain ⟨j, E, M, R, G, rk, hgj, hj, rfl, hG, hK⟩ := hrel
  have HG : Hid (Grown (fun k => k < w3.heap.size) E wr p r M R G rk 300) := hG
  have HK : Hid (Kept (fun k => k < w3.heap.size) w3 wr) := hK
  by_cases hlt : j < sn
  ·have hjl : j < sl.length := by rw [HSL.out]; exact hlt
   have hKw : Kept (fun k => k < w.heap.size) w wr := kt HK3.out hK
   obtain ⟨b, o, rfl, hb, dd⟩ := HS.out j hjl
   have dw : wr.cell? ⟨b, o + j, none⟩ = some (.int .i64 sl[j]) := (hKw.cell (p := ⟨b, o + j, none⟩) hb).trans dd
   obtain ⟨z, hz⟩ : ∃ z, sl[j] = z := ⟨_, rfl⟩
   rw [hz] at dw
   obtain ⟨m, hm⟩ : ∃ m, M.n = m := ⟨_, rfl⟩
   have rl : Calls Tryz.prog 15 #[.pointer (some ⟨p, 0, none⟩)] wr fun e w' => e = .returned (.int .i64 (m : Int)) /\ w' = wr := by rw [<- hm]; exact hG.len (Kept.refl _ _)
   have hm1 : 1 <= m := by rw [<- hm]; exact hG.inv.core.pos
   have hm300 : m <= 300 := by have h1 := hG.le; rw [hG.lim, hm] at h1; exact h1
   clear hG hK hKw hb dd hz hm hjl
   go_upto_if 45 with fail
   go_cut [10] (fun v wx => ∃ k : Int, v = .int .i64 k /\ wx = wr)
   case first =>
    by_cases hz1 : z > 1000
    ·have i1 : decide (z > 1000) = true := decide_eq_true hz1
     try rw [i1]
     go_wp2_with (go_at_call 15; refine rl.mono ?_; rintro e wq ⟨rfl, hwq⟩; replace hwq := hwq.symm; subst hwq)
     go_meet
     case rel => exact ⟨_, rfl, rfl⟩
    ·have i1 : decide (z > 1000) = false := decide_eq_false hz1
     try rw [i1]
     go_wp2_with fail
     go_meet
     case rel => exact ⟨_, rfl, rfl⟩
   case rest =>
    obtain ⟨k, rfl, hw⟩ := hcut
    replace hw := hw.symm
    subst hw
    obtain ⟨v, zz, M', R', G', rk', hI', hl', hle', hzb, hd, hr⟩ := zkb HG.out.inv (by rw [HG.out.lim]; decide) HG.out.le k deep
    have r1 := hd _ wr p HG.out.two.d
    have HR : Hid (∀ K w r, RX K TT w r M R G -> Calls Tryz.prog 53 #[.pointer (some ⟨r, 0, none⟩), .int .i64 k, .bool deep] w fun e w' => e = .returned (.tuple #[.int .i64 v, .int .i64 zz]) /\ RX K TT w' r M' R' G' /\ Kept K w w') := hr
    have HIL : Hid (Inv M' R' G' rk' /\ M'.limit = 300 /\ M'.n <= M'.limit) := ⟨hI', hl'.trans HG.out.lim, hle'⟩
    have hcv : ∀ X, (convert 59 3 (.int .u16 zz)).run Tryz.prog X = .ok (.int .i64 zz) X := fun X => zdc zz X hzb.1 hzb.2
    have hv0 : (v != v) = false := by simp
    have hz0 : (zz != zz) = false := by simp
    clear hd hr hI' hl' hle' hzb rl dw
    go_wp2_with fail
    refine r1.mono ?_
    rintro e Y ⟨rfl, hDY, hKY⟩
    obtain ⟨hDY2, hRY, hKK⟩ := HG.out.two.byD hKY hDY
    have r2 := HR.out _ Y r hRY
    have HKK : Hid (Kept (fun k => k < w3.heap.size) wr Y) := hKK
    have HDY : Hid (DX (TK (fun k => k < w3.heap.size) E) Y p M') := hDY2
    clear r1 hDY hKY hKK hDY2 hRY HR
    go_wp2_with fail
    refine r2.mono ?_
    rintro e Z ⟨rfl, hRZ, hKZ⟩
    obtain ⟨hT2, hKK2⟩ := Two.byR (M := M) (R := R) (G := G) HDY.out HG.out.two.nk hKZ hRZ
    have hG3 : Grown (fun k => k < w3.heap.size) _ Z p r M' R' G' rk' 300 := ⟨hT2, HIL.out.1, HIL.out.2.1, HIL.out.2.2⟩
    have HK5 : Hid (Kept (fun k => k < w3.heap.size) w3 Z) := (HK.out.trans HKK.out).trans hKK2
    have rs := zpb _ _ Z p r M' R' G' rk' hG3.two hG3.inv (by have := hG3.le; rw [hG3.lim] at this; omega)
    obtain ⟨E', hE'⟩ : ∃ E', Grown (fun k => k < w3.heap.size) E' Z p r M' R' G' rk' 300 := ⟨_, hG3⟩
    have HG5 : Hid (Grown (fun k => k < w3.heap.size) E' Z p r M' R' G' rk' 300) := hE'
    clear r2 hRZ hKZ hT2 hKK2 hG3 hE' HDY HKK HG HK HIL
    go_wp2_with fail
    refine rs.mono ?_
    rintro e V ⟨rfl, k6⟩
    have HG6 : Hid (Grown (fun k => k < w3.heap.size) E' V p r M' R' G' rk' 300) := HG5.out.kept k6
    have HK6 : Hid (Kept (fun k => k < w3.heap.size) w3 V) := kt HK5.out k6
    clear rs k6 HG5 HK5
    go_wp2
    go_roundg (sn - (j + 1))
    case rel => exact ⟨j + 1, E', M', R', G', rk', rfl, by omega, by go_num, HG6.out, HK6.out⟩
    case measure => omega
  ·have HF : Hid (Kept (fun k => k < w.heap.size) w wr) := kt HK3.out hK
   clear hG hK HG HK
   go_wp2
   go_ret
   exact ⟨rfl, HF.out⟩
theorem zq8 (a : Option Addr) (n c : Nat) (sa : Option Addr) (sn sc : Nat) (deep : Bool) (w : World) (hb : Bool) (hbad : hb = true \/ 20 < sn) (rh : Calls Tryz.prog 49 #[.slice a n c] w fun e w' => e = .returned (.bool hb) /\ Kept (fun k => k < w.heap.size) w w') :
  Calls Tryz.prog 7 #[.slice a n c, .slice sa sn sc, .bool deep] w fun e w' => e = .returned (.bool true) /\ Kept (fun k => k < w.heap.size) w w' := by
 cases hb with
 | true =>
  clear hbad
  go_enter Tryz.func7, Tryz.ntmps7
  go_wp2_with fail
  refine rh.mono ?_
  rintro e w1 ⟨rfl, k1⟩
  have HK1 : Hid (Kept (fun k => k < w.heap.size) w w1) := k1
  have rk := zes w1
  clear rh k1
  go_wp2_with fail
  refine rk.mono ?_
  rintro e w3 ⟨rfl, k3⟩
  have HK3 : Hid (Kept (fun k => k < w.heap.size) w w3) := kt HK1.out k3
  clear rk k3
  go_wp2
  go_ret
  exact ⟨rfl, HK3.out⟩
 | false =>
  have hg20 : decide ((sn : Int) > 20) = true := decide_eq_true (by rcases hbad with h | h; cases h; omega)
  clear hbad
  go_enter Tryz.func7, Tryz.ntmps7
  go_wp2_with fail
  refine rh.mono ?_
  rintro e w1 ⟨rfl, k1⟩
  have HK1 : Hid (Kept (fun k => k < w.heap.size) w w1) := k1
  have rk := zes w1
  clear rh k1
  go_wp2_with fail
  refine rk.mono ?_
  rintro e w3 ⟨rfl, k3⟩
  have HK3 : Hid (Kept (fun k => k < w.heap.size) w w3) := kt HK1.out k3
  clear rk k3
  go_wp2
  go_ret
  exact ⟨rfl, HK3.out⟩
end
end Go.Proofs.YtfeinppedejlpaaGreat
