/-
 The document's own Insert: what a fragment holds.; The program's Limit, Remove, Write; what its Insert refuses.; The program's Write; what its Insert refuses for a number of none.; What the document's own out and put do is what the program's do.; The document's own Insert: in the program's words.; T
-/
import Derived.Test.YtfeinppedejlpaaGreatNW20
import Derived.Test.YtfeinppedejlpaaGreatNB11
namespace Go.Proofs.YtfeinppedejlpaaGreat
variable {J : Nat -> Prop}
set_option linter.unusedVariables false
set_option maxRecDepth 100000
set_option maxHeartbeats 8000000
section
open Go.RowKit Go.Sort
theorem zkn (K : Nat -> Prop) (p up i : Nat) (M : Dm) (R G : Nat -> List Nat) (rk : Nat -> Nat) (w : World) (h : RX K J w p M R G) (ha : Acy M rk) (hu : up < M.n) (hi : i < M.n) (hn : M.n <= 1000000) (hge : ∀ k, k < M.n -> (M.pl k).up = -1 \/ 0 <= (M.pl k).up) (fb : Bool) (hfb : fb = true ↔ RFits M up i)  (hf : fb = true) (hkn : (M.nd i).kind = 4) (hlen : (R i).length <= 1000000) (Mk : Nat -> Dm) (Rk : Nat -> Nat -> List Nat) (m0 : Mk 0 = M) (r0 : Rk 0 = R)
  (hst : ∀ k (hk : k < (R i).length), Mk (k + 1) = zbu (Mk k) up (R i)[k] /\ Rk (k + 1) = zbm (Mk k) (Rk k) up (R i)[k] (-1))
  (hmn : ∀ k, (Mk k).n = M.n) (hli : ∀ k (hk : k < (R i).length), (R i)[k] < M.n) (hups : ∀ k (hk : k < (R i).length), ((Mk k).pl (R i)[k]).up = -1 \/ ∃ u : Nat, u < M.n /\ ((Mk k).pl (R i)[k]).up = (u : Int)) (hrls : ∀ k u, k <= (R i).length -> u < M.n -> (Rk k u).length <= 1000000) :
  Calls Tryz.prog 94 #[.pointer (some ⟨p, 0, none⟩), .int .i64 (up : Int), .int .i64 (i : Int), .int .i64 (-1)] w fun e w' => e = .returned (.int .i64 0) /\ RX K J w' p (Mk (R i).length) (Rk (R i).length) G /\ Kept K w w' := by
 have tu := zae K p M R G (up : Int) w h
 rw [zal hu] at tu
 have ti := zae K p M R G (i : Int) w h
 rw [zal hi] at ti
 have rf : Calls Tryz.prog 168 #[.pointer (some ⟨p, 0, none⟩), .int .i64 (up : Int), .int .i64 (i : Int)] w fun e w' => e = .returned (.bool fb) /\ Kept (fun k => k < w.heap.size) w w' :=
  (zcd K p up i M R G rk w h ha hu hi hn hge _ rfl _ rfl).mono fun e w' ⟨hy, hk⟩ => by
   obtain ⟨b, he, hb⟩ := hy
   exact ⟨by rw [he, Bool.eq_iff_iff.2 (hb.trans hfb.symm)], hk⟩
 have HM : Hid (∀ w', Kept (fun k => k < w.heap.size) w w' -> RX K J w' p M R G /\ Kept K w w') := fun w' hk => ⟨h.kept hk, hk.mono h.lt⟩
 have hlx : ∀ (K' : Nat -> Prop) k (hk : k < (R i).length) X, RX K' J X p (Mk k) (Rk k) G -> Calls Tryz.prog 169 #[.pointer (some ⟨p, 0, none⟩), .int .i64 (up : Int), .int .i64 ((R i)[k] : Int), .int .i64 (-1)] X fun e w' => e = .returned (.tuple #[]) /\ RX K' J w' p (Mk (k + 1)) (Rk (k + 1)) G /\ Kept K' X w' := fun K' k hk X hX => by
  have := zd7 K' p up (R i)[k] (-1) (Mk k) (Rk k) G X hX (by rw [hmn]; exact hu) (by rw [hmn]; exact hli k hk) (by rw [hmn]; exact hn) (by rw [hmn]; exact hups k hk) (by rw [hmn]; exact fun u hu => hrls k u (by omega) hu) (by omega) (by omega)
  rw [<- (hst k hk).1, <- (hst k hk).2] at this
  exact this
 subst hf
 clear h ha hge hfb
 go_enter Tryz.func94, Tryz.ntmps94
 go_wp2_with fail
 refine tu.mono ?_
 rintro e1 w3 ⟨rfl, hw3⟩
 replace hw3 := hw3.symm
 subst hw3
 go_wp2_with fail
 refine ti.mono ?_
 rintro e1 w3 ⟨rfl, hw3⟩
 replace hw3 := hw3.symm
 subst hw3
 go_wp2_with fail
 refine rf.mono ?_
 rintro e1 w4 ⟨rfl, hk4⟩
 obtain ⟨hX4, hK4⟩ := HM.out w4 hk4
 have HX4 : Hid (RX K J w4 p M R G) := hX4
 have HK4 : Hid (Kept K w w4) := hK4
 obtain ⟨A, hY4⟩ := hX4
 obtain ⟨g, hg, -, -, hgl⟩ := hY4.nat (by omega)
 have c1 := hY4.c1
 rw [hg] at c1
 have c0 : w4.cell? ⟨g, i * 14, none⟩ = some (.int .u8 ((M.nd i).kind : Int)) := hY4.cell hg hi 0 _ rfl
 rw [hkn] at c0
 have c0' : w4.cell? ⟨g, i * 14, none⟩ = some (.int .u8 4) := c0
 have c5 : w4.cell? ⟨g, i * 14 + 5, none⟩ = some (.slice (A.ka i) (R i).length (A.kc i)) := hY4.cell hg hi 5 _ rfl
 have hki := (hY4.kid i hi).to (F' := fun k => k < w4.heap.size) (w' := w4) (fun g hg => hg.1) (fun _ _ => rfl)
 have HX0 : Hid (RX K J w4 p (Mk 0) (Rk 0) G) := by rw [m0, r0]; exact HX4
 obtain ⟨l, hle⟩ : ∃ l, R i = l := ⟨_, rfl⟩
 obtain ⟨n, hne⟩ : ∃ n, l.length = n := ⟨_, rfl⟩
 obtain ⟨ka, hka⟩ : ∃ ka, A.ka i = ka := ⟨_, rfl⟩
 obtain ⟨kc, hkc⟩ : ∃ kc, A.kc i = kc := ⟨_, rfl⟩
 rw [hle, hne, hka, hkc] at c5
 rw [hle, hka] at hki
 have ri := zef l ka n kc hne (by rw [<- hne, <- hle]; omega) w4 hki
 have hn1 : n <= 1000000 := by rw [<- hne, <- hle]; exact hlen
 have HRN : Hid ((R i).length = n) := by rw [<- hne, <- hle]; exact (show Hid _ from rfl)
 have HLI : Hid (R i = l) := hle
 have HLX : Hid (∀ (K' : Nat -> Prop) k (hk : k < l.length) X, RX K' J X p (Mk k) (Rk k) G -> Calls Tryz.prog 169 #[.pointer (some ⟨p, 0, none⟩), .int .i64 (up : Int), .int .i64 (l[k] : Int), .int .i64 (-1)] X fun e w' => e = .returned (.tuple #[]) /\ RX K' J w' p (Mk (k + 1)) (Rk (k + 1)) G /\ Kept K' X w') := by subst hle; exact (show Hid _ from hlx)
 have HLT : Hid (∀ k, K k -> k < w4.heap.size) := hY4.lt
 clear hY4 hg hK4 rf tu ti HM hk4 hlx hki hle hne hka hkc hst hmn hli hups hrls m0 r0 c0 hkn hlen
 go_wp2_with fail
 refine ri.mono ?_
 rintro e1 w5 ⟨ao, c, rfl, hO, hk5⟩
 have HX5 : Hid (RX (fun k => K k \/ (w4.heap.size <= k /\ k < w5.heap.size)) J w5 p (Mk 0) (Rk 0) G) := HX0.out.more hk5 (fun k h => h.elim .inl fun h => .inr h.1) (fun k h => h.elim (fun h => ltl (HLT.out k h) hk5.size) fun h => h.2)
 have HK5 : Hid (Kept K w w5) := HK4.out.trans (hk5.mono HLT.out)
 have HO : Hid (Zan (fun k => w4.heap.size <= k /\ k < w5.heap.size) w5 ao l) := hO.intsAt fun x hx => ⟨Nat.le_of_not_lt (Zac.out hO hx).1, (Zac.out hO hx).2⟩
 have HLN : Hid (l.length = n) := by rw [<- HLI.out]; exact HRN
 obtain ⟨K', hK'⟩ : ∃ K' : Nat -> Prop, (fun k => K k \/ (w4.heap.size <= k /\ k < w5.heap.size)) = K' := ⟨_, rfl⟩
 have HK0 : Hid (∀ k, K k -> K' k) := by rw [<- hK']; exact (show Hid _ from fun k h => .inl h)
 have HK1 : Hid (∀ k, (w4.heap.size <= k /\ k < w5.heap.size) -> K' k) := by rw [<- hK']; exact (show Hid _ from fun k h => .inr h)
 rw [hK'] at HX5
 clear ri hO hk5 HX0 HX4 HK4 hK'
 go_upto_region 8 with fail
 go_loopg [10] n (fun gh v wr => ∃ k : Nat, gh = n - k /\ k <= n /\ v = .int .i64 (k : Int) /\ RX K' J wr p (Mk k) (Rk k) G /\ Kept K' w5 wr)
 case atStart => exact ⟨0, rfl, Nat.zero_le _, rfl, HX5.out, Kept.refl _ _⟩
 case round =>
  obtain ⟨k, hgk, hk, rfl, hXk, hKk⟩ := hrel
  have HXk : Hid (RX K' J wr p (Mk k) (Rk k) G) := hXk
  have HKk : Hid (Kept K' w5 wr) := hKk
  by_cases hlt : k < n
  ·have hkl : k < l.length := by rw [HLN.out]; exact hlt
   obtain ⟨g1, o1, rfl, hg1, d0⟩ := HO.out k hkl
   have d0w := (hKk.cell (p := ⟨g1, o1 + k, none⟩) (HK1.out g1 hg1)).trans d0
   have rp := HLX.out K' k hkl wr hXk
   obtain ⟨y, hy⟩ : ∃ y, l[k] = y := ⟨_, rfl⟩
   rw [hy] at d0w rp
   clear d0 hXk hKk hy
   go_wp2_with fail
   refine rp.mono ?_
   rintro e1 w6 ⟨rfl, hX6, hK6⟩
   have HX6 : Hid (RX K' J w6 p (Mk (k + 1)) (Rk (k + 1)) G) := hX6
   have HK6 : Hid (Kept K' w5 w6) := HKk.out.trans hK6
   clear rp hX6 hK6 d0w
   go_wp2
   go_roundg (n - (k + 1))
   case rel => exact ⟨k + 1, rfl, by omega, by go_num, HX6.out, HK6.out⟩
   case measure => omega
  ·have hkn : n = k := by omega
   subst hkn
   clear hXk hKk
   go_wp2
   go_ret
   refine ⟨rfl, ?_, HK5.out.trans (HKk.out.mono HK0.out)⟩
   rw [HRN.out]
   exact HXk.out.more (Kept.refl _ _) (fun k h => .inl (HK0.out k h)) (fun k h => HXk.out.lt k (HK0.out k h))
theorem zk3 (K : Nat -> Prop) (p up i : Nat) (M : Dm) (R G : Nat -> List Nat) (rk : Nat -> Nat) (w : World) (h : RX K J w p M R G) (ha : Acy M rk) (hu : up < M.n) (hi : i < M.n) (hn : M.n <= 1000000) (hge : ∀ k, k < M.n -> (M.pl k).up = -1 \/ 0 <= (M.pl k).up) (fb : Bool) (hfb : fb = true ↔ RFits M up i) (b : Nat) (hb : b < M.n) (hbu : (M.pl b).up = (up : Int)) (hf : fb = true) (hkn : (M.nd i).kind = 4) (hlen : (R i).length <= 1000000) (Mk : Nat -> Dm) (Rk : Nat -> Nat -> List Nat) (m0 : Mk 0 = M) (r0 : Rk 0 = R)
  (hst : ∀ k (hk : k < (R i).length), Mk (k + 1) = zbu (Mk k) up (R i)[k] /\ Rk (k + 1) = zbm (Mk k) (Rk k) up (R i)[k] (b : Int))
  (hmn : ∀ k, (Mk k).n = M.n) (hli : ∀ k (hk : k < (R i).length), (R i)[k] < M.n) (hups : ∀ k (hk : k < (R i).length), ((Mk k).pl (R i)[k]).up = -1 \/ ∃ u : Nat, u < M.n /\ ((Mk k).pl (R i)[k]).up = (u : Int)) (hrls : ∀ k u, k <= (R i).length -> u < M.n -> (Rk k u).length <= 1000000) :
  Calls Tryz.prog 94 #[.pointer (some ⟨p, 0, none⟩), .int .i64 (up : Int), .int .i64 (i : Int), .int .i64 (b : Int)] w fun e w' => e = .returned (.int .i64 0) /\ RX K J w' p (Mk (R i).length) (Rk (R i).length) G /\ Kept K w w' := by
 have tu := zae K p M R G (up : Int) w h
 rw [zal hu] at tu
 have ti := zae K p M R G (i : Int) w h
 rw [zal hi] at ti
 have rf : Calls Tryz.prog 168 #[.pointer (some ⟨p, 0, none⟩), .int .i64 (up : Int), .int .i64 (i : Int)] w fun e w' => e = .returned (.bool fb) /\ Kept (fun k => k < w.heap.size) w w' :=
  (zcd K p up i M R G rk w h ha hu hi hn hge _ rfl _ rfl).mono fun e w' ⟨hy, hk⟩ => by
   obtain ⟨b, he, hb⟩ := hy
   exact ⟨by rw [he, Bool.eq_iff_iff.2 (hb.trans hfb.symm)], hk⟩
 have HM : Hid (∀ w', Kept (fun k => k < w.heap.size) w w' -> RX K J w' p M R G /\ Kept K w w') := fun w' hk => ⟨h.kept hk, hk.mono h.lt⟩
 have tb := zae K p M R G (b : Int) w h
 rw [zal hb] at tb
 have b2 : ((b : Int) != -1) = true := by first | (simp; done) | (simp; omega)
 have hlx : ∀ (K' : Nat -> Prop) k (hk : k < (R i).length) X, RX K' J X p (Mk k) (Rk k) G -> Calls Tryz.prog 169 #[.pointer (some ⟨p, 0, none⟩), .int .i64 (up : Int), .int .i64 ((R i)[k] : Int), .int .i64 (b : Int)] X fun e w' => e = .returned (.tuple #[]) /\ RX K' J w' p (Mk (k + 1)) (Rk (k + 1)) G /\ Kept K' X w' := fun K' k hk X hX => by
  have := zd7 K' p up (R i)[k] (b : Int) (Mk k) (Rk k) G X hX (by rw [hmn]; exact hu) (by rw [hmn]; exact hli k hk) (by rw [hmn]; exact hn) (by rw [hmn]; exact hups k hk) (by rw [hmn]; exact fun u hu => hrls k u (by omega) hu) (by omega) (by omega)
  rw [<- (hst k hk).1, <- (hst k hk).2] at this
  exact this
 subst hf
 clear h ha hge hfb
 go_enter Tryz.func94, Tryz.ntmps94
 go_wp2_with fail
 refine tu.mono ?_
 rintro e1 w3 ⟨rfl, hw3⟩
 replace hw3 := hw3.symm
 subst hw3
 go_wp2_with fail
 refine ti.mono ?_
 rintro e1 w3 ⟨rfl, hw3⟩
 replace hw3 := hw3.symm
 subst hw3
 go_wp2_with fail
 refine tb.mono ?_
 rintro e1 w3 ⟨rfl, hw3⟩
 replace hw3 := hw3.symm
 subst hw3
 go_wp2_with fail
 refine rf.mono ?_
 rintro e1 w4 ⟨rfl, hk4⟩
 obtain ⟨hX4, hK4⟩ := HM.out w4 hk4
 have HX4 : Hid (RX K J w4 p M R G) := hX4
 have HK4 : Hid (Kept K w w4) := hK4
 obtain ⟨A, hY4⟩ := hX4
 obtain ⟨g, hg, -, -, hgl⟩ := hY4.nat (by omega)
 have c1 := hY4.c1
 rw [hg] at c1
 have c4 : w4.cell? ⟨g, b * 14 + 4, none⟩ = some (.int .i64 (M.pl b).up) := hY4.cell hg hb 4 _ rfl
 rw [hbu] at c4
 clear tb hbu
 have c0 : w4.cell? ⟨g, i * 14, none⟩ = some (.int .u8 ((M.nd i).kind : Int)) := hY4.cell hg hi 0 _ rfl
 rw [hkn] at c0
 have c0' : w4.cell? ⟨g, i * 14, none⟩ = some (.int .u8 4) := c0
 have c5 : w4.cell? ⟨g, i * 14 + 5, none⟩ = some (.slice (A.ka i) (R i).length (A.kc i)) := hY4.cell hg hi 5 _ rfl
 have hki := (hY4.kid i hi).to (F' := fun k => k < w4.heap.size) (w' := w4) (fun g hg => hg.1) (fun _ _ => rfl)
 have HX0 : Hid (RX K J w4 p (Mk 0) (Rk 0) G) := by rw [m0, r0]; exact HX4
 obtain ⟨l, hle⟩ : ∃ l, R i = l := ⟨_, rfl⟩
 obtain ⟨n, hne⟩ : ∃ n, l.length = n := ⟨_, rfl⟩
 obtain ⟨ka, hka⟩ : ∃ ka, A.ka i = ka := ⟨_, rfl⟩
 obtain ⟨kc, hkc⟩ : ∃ kc, A.kc i = kc := ⟨_, rfl⟩
 rw [hle, hne, hka, hkc] at c5
 rw [hle, hka] at hki
 have ri := zef l ka n kc hne (by rw [<- hne, <- hle]; omega) w4 hki
 have hn1 : n <= 1000000 := by rw [<- hne, <- hle]; exact hlen
 have HRN : Hid ((R i).length = n) := by rw [<- hne, <- hle]; exact (show Hid _ from rfl)
 have HLI : Hid (R i = l) := hle
 have HLX : Hid (∀ (K' : Nat -> Prop) k (hk : k < l.length) X, RX K' J X p (Mk k) (Rk k) G -> Calls Tryz.prog 169 #[.pointer (some ⟨p, 0, none⟩), .int .i64 (up : Int), .int .i64 (l[k] : Int), .int .i64 (b : Int)] X fun e w' => e = .returned (.tuple #[]) /\ RX K' J w' p (Mk (k + 1)) (Rk (k + 1)) G /\ Kept K' X w') := by subst hle; exact (show Hid _ from hlx)
 have HLT : Hid (∀ k, K k -> k < w4.heap.size) := hY4.lt
 clear hY4 hg hK4 rf tu ti HM hk4 hlx hki hle hne hka hkc hst hmn hli hups hrls m0 r0 c0 hkn hlen
 go_wp2_with fail
 refine ri.mono ?_
 rintro e1 w5 ⟨ao, c, rfl, hO, hk5⟩
 have HX5 : Hid (RX (fun k => K k \/ (w4.heap.size <= k /\ k < w5.heap.size)) J w5 p (Mk 0) (Rk 0) G) := HX0.out.more hk5 (fun k h => h.elim .inl fun h => .inr h.1) (fun k h => h.elim (fun h => ltl (HLT.out k h) hk5.size) fun h => h.2)
 have HK5 : Hid (Kept K w w5) := HK4.out.trans (hk5.mono HLT.out)
 have HO : Hid (Zan (fun k => w4.heap.size <= k /\ k < w5.heap.size) w5 ao l) := hO.intsAt fun x hx => ⟨Nat.le_of_not_lt (Zac.out hO hx).1, (Zac.out hO hx).2⟩
 have HLN : Hid (l.length = n) := by rw [<- HLI.out]; exact HRN
 obtain ⟨K', hK'⟩ : ∃ K' : Nat -> Prop, (fun k => K k \/ (w4.heap.size <= k /\ k < w5.heap.size)) = K' := ⟨_, rfl⟩
 have HK0 : Hid (∀ k, K k -> K' k) := by rw [<- hK']; exact (show Hid _ from fun k h => .inl h)
 have HK1 : Hid (∀ k, (w4.heap.size <= k /\ k < w5.heap.size) -> K' k) := by rw [<- hK']; exact (show Hid _ from fun k h => .inr h)
 rw [hK'] at HX5
 clear ri hO hk5 HX0 HX4 HK4 hK'
 go_upto_region 8 with fail
 go_loopg [10] n (fun gh v wr => ∃ k : Nat, gh = n - k /\ k <= n /\ v = .int .i64 (k : Int) /\ RX K' J wr p (Mk k) (Rk k) G /\ Kept K' w5 wr)
 case atStart => exact ⟨0, rfl, Nat.zero_le _, rfl, HX5.out, Kept.refl _ _⟩
 case round =>
  obtain ⟨k, hgk, hk, rfl, hXk, hKk⟩ := hrel
  have HXk : Hid (RX K' J wr p (Mk k) (Rk k) G) := hXk
  have HKk : Hid (Kept K' w5 wr) := hKk
  by_cases hlt : k < n
  ·have hkl : k < l.length := by rw [HLN.out]; exact hlt
   obtain ⟨g1, o1, rfl, hg1, d0⟩ := HO.out k hkl
   have d0w := (hKk.cell (p := ⟨g1, o1 + k, none⟩) (HK1.out g1 hg1)).trans d0
   have rp := HLX.out K' k hkl wr hXk
   obtain ⟨y, hy⟩ : ∃ y, l[k] = y := ⟨_, rfl⟩
   rw [hy] at d0w rp
   clear d0 hXk hKk hy
   go_wp2_with fail
   refine rp.mono ?_
   rintro e1 w6 ⟨rfl, hX6, hK6⟩
   have HX6 : Hid (RX K' J w6 p (Mk (k + 1)) (Rk (k + 1)) G) := hX6
   have HK6 : Hid (Kept K' w5 w6) := HKk.out.trans hK6
   clear rp hX6 hK6 d0w
   go_wp2
   go_roundg (n - (k + 1))
   case rel => exact ⟨k + 1, rfl, by omega, by go_num, HX6.out, HK6.out⟩
   case measure => omega
  ·have hkn : n = k := by omega
   subst hkn
   clear hXk hKk
   go_wp2
   go_ret
   refine ⟨rfl, ?_, HK5.out.trans (HKk.out.mono HK0.out)⟩
   rw [HRN.out]
   exact HXk.out.more (Kept.refl _ _) (fun k h => .inl (HK0.out k h)) (fun k h => HXk.out.lt k (HK0.out k h))
end
section
open Go.RowKit Go.Sort
theorem zil (K : Nat -> Prop) (p : Nat) (M : Dm) (i : Int) (w : World) (h : DX K w p M) (hi : i < 0 \/ (M.n : Int) <= i) (hn : M.n <= 1000000) :
  Calls Tryz.prog 95 #[.pointer (some ⟨p, 0, none⟩), .int .i64 i] w fun e w' => e = .returned (.int .u16 80) /\ w' = w := by
 obtain ⟨ga, cap, hY⟩ := h
 have r := zfk p M.n cap ga i w hY.c1 hi (by omega)
 clear hY hi
 go_enter Tryz.func95, Tryz.ntmps95
 go_wp2_with (go_at_call 110; refine r.mono ?_; rintro e1 w3 ⟨rfl, hw3⟩; replace hw3 := hw3.symm; subst hw3)
 go_ret
 exact ⟨rfl, rfl⟩
theorem zhr (K : Nat -> Prop) (p i : Nat) (M : Dm) (R : Nat -> List Nat) (w : World) (h : DX K w p M) (hW : WF M.n M.pl R) (hi : i < M.n) (hn : M.n <= 1000000) :
  Calls Tryz.prog 95 #[.pointer (some ⟨p, 0, none⟩), .int .i64 (i : Int)] w fun e w' => Kept K w w' /\ (((M.pl i).up = -1 /\ e = .returned (.int .u16 81) /\ DX K w' p M) \/ ((M.pl i).up ≠ -1 /\ e = .returned (.int .u16 0) /\ DX K w' p (M.setP (zct M.pl i)))) := by
 obtain ⟨ga, cap, hY⟩ := h
 obtain ⟨g, rfl, -, -, -⟩ := hY.at (by omega)
 have r := zcs p g M.n cap i w hY.c1 hi (by omega)
 have rt := zjt K p g cap i M R w hY hW hi (by omega)
 obtain ⟨c0, -⟩ := hY.pcell hi
 have HY : Hid (DY K w p M (some ⟨g, 0, none⟩) cap) := hY
 obtain ⟨u, hu⟩ : ∃ u, (M.pl i).up = u := ⟨_, rfl⟩
 have HU : Hid ((M.pl i).up = u) := hu
 rw [hu] at c0
 clear hY hu hW
 by_cases q : u = -1
 ·subst q
  clear rt
  go_enter Tryz.func95, Tryz.ntmps95
  go_wp2_with (go_at_call 110; refine r.mono ?_; rintro e1 w3 ⟨rfl, hw3⟩; replace hw3 := hw3.symm; subst hw3)
  go_ret
  exact ⟨Kept.refl _ _, .inl ⟨HU.out, rfl, _, _, HY.out⟩⟩
 ·have q1 : (u == -1) = false := by simpa using q
  have HQ : Hid ((M.pl i).up ≠ -1) := by rw [HU.out]; exact (show Hid _ from q)
  go_enter Tryz.func95, Tryz.ntmps95
  go_wp2_with (first | (go_at_call 110; refine r.mono ?_; rintro e1 w3 ⟨rfl, hw3⟩; replace hw3 := hw3.symm; subst hw3) | (go_at_call 112; refine (zei _ _).mono ?_; rintro e w2 ⟨rfl, hw2⟩; replace hw2 := hw2.symm; subst hw2) | (go_at_call 171; refine rt.mono ?_; rintro e1 w4 ⟨rfl, hY4, hK4⟩))
  go_ret
  exact ⟨hK4, .inr ⟨HQ.out, rfl, _, _, hY4⟩⟩
theorem zkd (K : Nat -> Prop) (p : Nat) (M : Dm) (i : Int) (S : ByteArray) (w : World) (h : DX K w p M) (hi : i < 0 \/ (M.n : Int) <= i) (hn : M.n <= 1000000) :
  Calls Tryz.prog 101 #[.pointer (some ⟨p, 0, none⟩), .int .i64 i, .string S] w fun e w' => e = .returned (.int .u16 80) /\ w' = w := by
 obtain ⟨ga, cap, hY⟩ := h
 have r := zfk p M.n cap ga i w hY.c1 hi (by omega)
 clear hY hi
 go_enter Tryz.func101, Tryz.ntmps101
 go_wp2_with (go_at_call 110; refine r.mono ?_; rintro e1 w3 ⟨rfl, hw3⟩; replace hw3 := hw3.symm; subst hw3)
 go_ret
 exact ⟨rfl, rfl⟩
end
section
open Go.RowKit Go.Sort
theorem zj5 (K : Nat -> Prop) (p i : Nat) (M : Dm) (S : ByteArray) (w : World) (h : DX K w p M) (hi : i < M.n) (hn : M.n <= 1000000) :
  Calls Tryz.prog 101 #[.pointer (some ⟨p, 0, none⟩), .int .i64 (i : Int), .string S] w fun e w' => Kept K w w' /\ ((((M.nd i).kind ≠ 2 /\ (M.nd i).kind ≠ 3) /\ e = .returned (.int .u16 81) /\ DX K w' p M) \/ (((M.nd i).kind = 2 \/ (M.nd i).kind = 3) /\ e = .returned (.int .u16 0) /\ DX K w' p (M.setN i { M.nd i with data := S.toList }))) := by
 obtain ⟨ga, cap, hY⟩ := h
 obtain ⟨g, rfl, -, -, -⟩ := hY.at (by omega)
 have r := zcs p g M.n cap i w hY.c1 hi (by omega)
 obtain ⟨aa, ac, hc, hO⟩ := hY.cell hi
 have c0 : w.cell? ⟨g, i * 22, none⟩ = some (.int .u8 ((M.nd i).kind : Int)) := hc 0 _ rfl
 have c2 : w.cell? ⟨g, i * 22 + 2, none⟩ = some (sv (M.nd i).data) := hc 2 _ rfl
 have fz := hY.fg (i * 22 + 2)
 obtain ⟨hY2, hK2⟩ := hY.setNdata hi S.toList
 have eS : sv S.toList = .string S := by rw [ByteArray.toList_eq]
 rw [eS] at hY2 hK2
 have HX : Hid (DX K w p M) := ⟨_, _, hY⟩
 have HX2 : Hid (DX K (w.setCell ⟨g, i * 22 + 2, none⟩ (.string S)) p (M.setN i { M.nd i with data := S.toList })) := ⟨_, _, hY2⟩
 have HK2 : Hid (Kept K w (w.setCell ⟨g, i * 22 + 2, none⟩ (.string S))) := hK2
 obtain ⟨kd, hkd⟩ : ∃ kd, (M.nd i).kind = kd := ⟨_, rfl⟩
 have HKD : Hid ((M.nd i).kind = kd) := hkd
 rw [hkd] at c0
 clear hY hY2 hK2 hkd eS hc hO
 by_cases q2 : kd = 2
 ·subst q2
  go_enter Tryz.func101, Tryz.ntmps101
  go_wp2_with (go_at_call 110; refine r.mono ?_; rintro e1 w3 ⟨rfl, hw3⟩; replace hw3 := hw3.symm; subst hw3)
  go_ret
  exact ⟨HK2.out, .inr ⟨.inl HKD.out, rfl, HX2.out⟩⟩
 have p2 : ((kd : Int) == 2) = false := by simp; omega
 by_cases q3 : kd = 3
 ·subst q3
  go_enter Tryz.func101, Tryz.ntmps101
  go_wp2_with (go_at_call 110; refine r.mono ?_; rintro e1 w3 ⟨rfl, hw3⟩; replace hw3 := hw3.symm; subst hw3)
  go_ret
  exact ⟨HK2.out, .inr ⟨.inr HKD.out, rfl, HX2.out⟩⟩
 have p3 : ((kd : Int) == 3) = false := by simp; omega
 have n2 : ((kd : Int) != 2) = true := by simp; omega
 have n3 : ((kd : Int) != 3) = true := by simp; omega
 go_enter Tryz.func101, Tryz.ntmps101
 go_wp2_with (go_at_call 110; refine r.mono ?_; rintro e1 w3 ⟨rfl, hw3⟩; replace hw3 := hw3.symm; subst hw3)
 go_ret
 exact ⟨Kept.refl _ _, .inl ⟨⟨by rw [HKD.out]; exact q2, by rw [HKD.out]; exact q3⟩, rfl, HX.out⟩⟩
theorem zit (K : Nat -> Prop) (p : Nat) (M : Dm) (up i bef : Int) (w : World) (h : DX K w p M) (hn : M.n <= 1000000)
  (hno : (up < 0 \/ (M.n : Int) <= up) \/ (i < 0 \/ (M.n : Int) <= i) \/ (bef ≠ -1 /\ (bef < 0 \/ (M.n : Int) <= bef))) :
  Calls Tryz.prog 70 #[.pointer (some ⟨p, 0, none⟩), .int .i64 up, .int .i64 i, .int .i64 bef] w fun e w' => e = .returned (.int .u16 80) /\ w' = w := by
 obtain ⟨ga, cap, hY⟩ := h
 have c1 := hY.c1
 have ANY : ∀ z : Int, (0 <= z /\ z < (M.n : Int)) -> ∃ a, Calls Tryz.prog 110 #[.pointer (some ⟨p, 0, none⟩), .int .i64 z] w fun e w' => e = .returned (.pointer (some a)) /\ w' = w := fun z hz => by
  obtain ⟨k, rfl⟩ : ∃ k : Nat, z = (k : Int) := ⟨z.toNat, by omega⟩
  have hk : k < M.n := by omega
  obtain ⟨g, rfl, -, -, -⟩ := hY.at (by omega)
  exact ⟨_, zcs p g M.n cap k w c1 hk (by omega)⟩
 by_cases cu : up < 0 \/ (M.n : Int) <= up
 ·have ru := zfk p M.n cap ga up w c1 cu (by omega)
  clear hY c1 ANY hno cu
  go_enter Tryz.func70, Tryz.ntmps70
  go_wp2_with fail
  refine ru.mono ?_
  rintro e1 w3 ⟨rfl, hw3⟩
  replace hw3 := hw3.symm
  subst hw3
  go_wp2
  go_ret
  exact ⟨rfl, rfl⟩
 obtain ⟨au, ru⟩ := ANY up (by omega)
 by_cases ci : i < 0 \/ (M.n : Int) <= i
 ·have ri := zfk p M.n cap ga i w c1 ci (by omega)
  clear hY c1 ANY hno cu ci
  go_enter Tryz.func70, Tryz.ntmps70
  go_wp2_with fail
  refine ru.mono ?_
  rintro e1 w3 ⟨rfl, hw3⟩
  replace hw3 := hw3.symm
  subst hw3
  go_wp2_with fail
  refine ri.mono ?_
  rintro e1 w3 ⟨rfl, hw3⟩
  replace hw3 := hw3.symm
  subst hw3
  go_wp2
  go_ret
  exact ⟨rfl, rfl⟩
 obtain ⟨ai, ri⟩ := ANY i (by omega)
 obtain ⟨b1, cb⟩ : bef ≠ -1 /\ (bef < 0 \/ (M.n : Int) <= bef) := by
  rcases hno with c | c | c
  ·exact absurd c cu
  ·exact absurd c ci
  ·exact c
 have rb := zfk p M.n cap ga bef w c1 cb (by omega)
 have b2 : (bef != -1) = true := by simpa using b1
 clear hY c1 ANY hno cu ci cb
 go_enter Tryz.func70, Tryz.ntmps70
 go_wp2_with fail
 refine ru.mono ?_
 rintro e1 w3 ⟨rfl, hw3⟩
 replace hw3 := hw3.symm
 subst hw3
 go_wp2_with fail
 refine ri.mono ?_
 rintro e1 w3 ⟨rfl, hw3⟩
 replace hw3 := hw3.symm
 subst hw3
 go_wp2_with fail
 refine rb.mono ?_
 rintro e1 w3 ⟨rfl, hw3⟩
 replace hw3 := hw3.symm
 subst hw3
 go_wp2
 go_ret
 exact ⟨rfl, rfl⟩
end
section
open Go.RowKit Go.Sort
theorem zjh {l : List Nat} (h : l.Nodup) (i : Nat) : wo l (i : Int) = l.erase i := by
 rw [h.erase_eq_filter]
 unfold wo
 congr 1
 funext k
 rw [Bool.eq_iff_iff]
 simp
 omega
theorem zjy {M : Dm} {R : Nat -> List Nat} (h : WF M.n M.pl R) {i : Nat} (hi : i < M.n) : zch M R i = zcy M.pl R i := by
 unfold zch zcy
 by_cases c : (M.pl i).up = -1
 ·rw [if_pos c, if_pos c]
 ·rw [if_neg c, if_neg c]
  rcases h.inn i hi with e | ⟨u, hu, e, -⟩
  ·exact absurd e c
  ·rw [e, Int.toNat_natCast, zjh (h.nodup u hu)]
theorem zl9 (M : Dm) (i k : Nat) : ((zcu M i).pl k).up = (zct M.pl i k).up := by
 by_cases c : k = i
 ·subst c
  show (zaw M.pl k { M.pl k with up := -1 } k).up = _
  unfold zaw zct
  rw [if_pos rfl]
  by_cases q : (M.pl k).up = -1
  ·rw [if_pos q, q]
  ·rw [if_neg q]
   simp
 ·rw [zdi c]
  show (zaw M.pl i { M.pl i with up := -1 } k).up = _
  unfold zaw
  rw [if_neg c]
theorem RX.out {K : Nat -> Prop} {w : World} {p : Nat} {M : Dm} {R G : Nat -> List Nat} {i : Nat} (hW : WF M.n M.pl R) (hi : i < M.n) (h : RX K J w p (zcu M i) (zch M R i) G) : RX K J w p (M.setP (zct M.pl i)) (zcy M.pl R i) G :=
 h.congr rfl rfl (fun _ _ => rfl) (fun k _ => (zl9 M i k).symm) (fun k _ => by rw [zjy hW hi]) (fun _ _ => rfl)
theorem zir (l : List Nat) (i : Nat) {bef : Int} (h : ∀ k ∈ l, (k : Int) ≠ bef) : zf5 l i bef = l := by
 induction l with
 | nil => rfl
 | cons a r ih =>
  show (if (a : Int) = bef then [i, a] else [a]) ++ zf5 r i bef = _
  rw [if_neg (h a (List.mem_cons_self ..)), ih fun k hk => h k (List.mem_cons_of_mem _ hk)]
  rfl
theorem zoo (l r : List Nat) (i : Nat) (bef : Int) : zf5 (l ++ r) i bef = zf5 l i bef ++ zf5 r i bef := by
 unfold zf5
 rw [List.flatMap_append]
theorem zp0 {l a b : List Nat} {bef : Int} (hn : l.Nodup) (h : At l bef a b) (i : Nat) : zp8 l i bef = a ++ i :: b := by
 cases h with
 | last e =>
  subst e
  unfold zp8
  rw [if_pos (by omega), zir l i fun k _ => by omega]
 | @mid a b m e hl =>
  subst e
  subst hl
  have ha : ∀ k ∈ a, (k : Int) ≠ (m : Int) := fun k hk e => by
   have := (List.nodup_append.1 hn).2.2 k hk m (List.mem_cons_self ..)
   omega
  have hb : ∀ k ∈ b, (k : Int) ≠ (m : Int) := fun k hk e => by
   have h2 := (List.nodup_append.1 hn).2.1
   have h3 := (List.nodup_cons.1 h2).1
   have : k = m := by omega
   subst this
   exact h3 hk
  unfold zp8
  rw [if_neg (by omega), zoo, zir a i ha]
  show a ++ ((if (m : Int) = (m : Int) then [i, m] else [m]) ++ zf5 b i m) = _
  rw [if_pos rfl, zir b i hb]
  rfl
theorem zji {M : Dm} {R : Nat -> List Nat} (h : WF M.n M.pl R) {up i : Nat} (hu : up < M.n) (hi : i < M.n) {bef : Int} (hb : Zfq M.n M.pl up i bef) : zbm M R up i bef = putR M.pl R up i bef := by
 obtain ⟨a, b, ha⟩ := zmc h hu hi hb
 have hn := (h.out hi).nodup up hu
 obtain ⟨e1, e2⟩ := zrb ha hn
 unfold zbm YtfeinppedejlpaaGreat.putR zqy
 rw [zjy h hi, <- e1, <- e2, zp0 hn ha]
theorem zno (M : Dm) (up i : Nat) (bef : Int) (k : Nat) : ((zbu M up i).pl k).up = (zdn M.pl up i bef k).up := by
 by_cases c : k = i
 ·subst c
  rw [zb6]
  show (zaw (zcu M k).pl k { (zcu M k).pl k with up := (up : Int) } k).up = _
  unfold zaw
  rw [if_pos rfl]
 ·rw [zd5 c]
  show (zaw (zcu M i).pl i { (zcu M i).pl i with up := (up : Int) } k).up = _
  unfold zaw
  rw [if_neg c, zl9, zdi c]
theorem RX.put {K : Nat -> Prop} {w : World} {p : Nat} {M : Dm} {R G : Nat -> List Nat} {up i : Nat} {bef : Int} (hW : WF M.n M.pl R) (hu : up < M.n) (hi : i < M.n) (hb : Zfq M.n M.pl up i bef) (h : RX K J w p (zbu M up i) (zbm M R up i bef) G) : RX K J w p (M.setP (zdn M.pl up i bef)) (putR M.pl R up i bef) G :=
 h.congr rfl rfl (fun _ _ => rfl) (fun k _ => (zno M up i bef k).symm) (fun k _ => by rw [zji hW hu hi hb]) (fun _ _ => rfl)
theorem ziz {M M' : Dm} {R : Nat -> List Nat} {up i : Nat} {bef : Int} (h : (M.pl i).up = (M'.pl i).up) : zbm M R up i bef = zbm M' R up i bef := by
 unfold zbm zch
 rw [h]
def rM (M : Dm) (up : Nat) : List Nat -> Dm
 | [] => M
 | k :: r => rM (zbu M up k) up r
def rR (M : Dm) (R : Nat -> List Nat) (up : Nat) (bef : Int) : List Nat -> Nat -> List Nat
 | [] => R
 | k :: r => rR (zbu M up k) (zbm M R up k bef) up bef r
end
section
open Go.RowKit Go.Sort
theorem zi4 (up : Nat) : ∀ (l : List Nat) (M : Dm), (rM M up l).n = M.n /\ (rM M up l).nd = M.nd /\ (rM M up l).limit = M.limit
 | [], M => ⟨rfl, rfl, rfl⟩
 | k :: r, M => zi4 up r (zbu M up k)
theorem zlh (up x : Nat) : ∀ (l : List Nat) (M : Dm), rM M up (l ++ [x]) = zbu (rM M up l) up x
 | [], M => rfl
 | k :: r, M => zlh up x r (zbu M up k)
theorem zmj (up x : Nat) (bef : Int) : ∀ (l : List Nat) (M : Dm) (R : Nat -> List Nat), rR M R up bef (l ++ [x]) = zbm (rM M up l) (rR M R up bef l) up x bef
 | [], M, R => rfl
 | k :: r, M, R => zmj up x bef r (zbu M up k) (zbm M R up k bef)
theorem zsb {n up i : Nat} {bef : Int} (rest : List Nat) : ∀ {M : Dm} {L : Nat -> Lk} {R : Nat -> List Nat}, M.n = n -> (∀ k, (M.pl k).up = (L k).up) -> FrS n up i bef L R rest -> ∀ k, k <= rest.length ->
  FrS n up i bef (zb9 L up bef (rest.take k)) (zic L R up bef (rest.take k)) (rest.drop k) /\ rR M R up bef (rest.take k) = zic L R up bef (rest.take k) /\ ∀ j, ((rM M up (rest.take k)).pl j).up = (zb9 L up bef (rest.take k) j).up := by
 induction rest with
 | nil =>
  intro M L R hn hL h k hk
  rw [List.take_nil, List.drop_nil]
  exact ⟨h, rfl, hL⟩
 | cons x r ih =>
  intro M L R hn hL h k hk
  cases k with
  | zero => exact ⟨h, rfl, hL⟩
  | succ k =>
   obtain ⟨hx, huk, hb⟩ := h.ok
   have e : zbm M R up x bef = putR L R up x bef := by
    have h1 : zbm M R up x bef = zbm (M.setP L) R up x bef := ziz (hL x)
    rw [h1]
    exact zji (M := M.setP L) (by show WF M.n L R; rw [hn]; exact h.wf) (by show up < M.n; rw [hn]; exact h.hu) (by show x < M.n; rw [hn]; exact hx) (by show Zfq M.n L up x bef; rw [hn]; exact hb)
   have e2 : ∀ k, ((zbu M up x).pl k).up = (zdn L up x bef k).up := fun k => by
    rw [zno M up x bef k]
    by_cases c : k = x
    ·subst c; rw [zb6, zb6]
    ·rw [zd5 c, zd5 c, hL]
   have := ih (M := zbu M up x) (L := zdn L up x bef) (R := putR L R up x bef) hn e2 h.next k (by simpa using hk)
   rw [List.take_succ_cons, List.drop_succ_cons]
   show FrS n up i bef (zb9 (zdn L up x bef) up bef (r.take k)) (zic (zdn L up x bef) (putR L R up x bef) up bef (r.take k)) (r.drop k) /\ rR (zbu M up x) (zbm M R up x bef) up bef (r.take k) = _ /\ _
   rw [e]
   exact this
theorem zqn {M : Dm} {R : Nat -> List Nat} {up i : Nat} {bef : Int} (hP : Zcv M R up i bef) (hn : M.n <= 1000000) :
  (∀ k (hk : k < (R i).length), rM M up ((R i).take (k + 1)) = zbu (rM M up ((R i).take k)) up (R i)[k] /\ rR M R up bef ((R i).take (k + 1)) = zbm (rM M up ((R i).take k)) (rR M R up bef ((R i).take k)) up (R i)[k] bef) /\
  (∀ k, (rM M up ((R i).take k)).n = M.n) /\ (∀ k (hk : k < (R i).length), (R i)[k] < M.n) /\
  (∀ k (hk : k < (R i).length), ((rM M up ((R i).take k)).pl (R i)[k]).up = -1 \/ ∃ u : Nat, u < M.n /\ ((rM M up ((R i).take k)).pl (R i)[k]).up = (u : Int)) /\
  (∀ k u, k <= (R i).length -> u < M.n -> (rR M R up bef ((R i).take k) u).length <= 1000000) /\
  rR M R up bef (R i) = zic M.pl R up bef (R i) /\ ∀ k, ((rM M up (R i)).pl k).up = (zb9 M.pl up bef (R i) k).up := by
 have F := zsb (R i) (M := M) (L := M.pl) (R := R) rfl (fun _ => rfl) hP.fr
 have hlt : ∀ k (hk : k < (R i).length), (R i)[k] < M.n := fun k hk => hP.wf.lt i hP.hi _ (List.getElem_mem hk)
 refine ⟨fun k hk => ?_, fun k => (zi4 up _ M).1, hlt, fun k hk => ?_, fun k u hk hu => ?_, ?_⟩
 ·rw [List.take_succ_eq_append_getElem hk]
  exact ⟨zlh _ _ _ _, zmj _ _ _ _ _ _⟩
 ·obtain ⟨f, -, g⟩ := F k (by omega)
  rw [g]
  rcases f.wf.inn _ (hlt k hk) with e | ⟨u, hu, e, -⟩
  ·exact .inl e
  ·exact .inr ⟨u, hu, e⟩
 ·obtain ⟨f, e, -⟩ := F k hk
  rw [e]
  exact Nat.le_trans (f.wf.len_le hu) hn
 ·obtain ⟨-, e, g⟩ := F (R i).length (Nat.le_refl _)
  rw [List.take_length] at e g
  exact ⟨e, g⟩
end
section
open Go.RowKit Go.Sort
theorem zem (K : Nat -> Prop) (p up i : Nat) (bef : Int) (M : Dm) (R G : Nat -> List Nat) (rk : Nat -> Nat) (w : World) (h : RX K J w p M R G) (hW : WF M.n M.pl R) (ha : Acy M rk) (hu : up < M.n) (hi : i < M.n) (hb : bef = -1 \/ ∃ m : Nat, m < M.n /\ bef = (m : Int)) (hn : M.n <= 1000000)
  (hh : zfx M i = true ↔ i ≠ 0 /\ (M.nd i).host < 0) :
  Calls Tryz.prog 94 #[.pointer (some ⟨p, 0, none⟩), .int .i64 (up : Int), .int .i64 (i : Int), .int .i64 bef] w fun e w' => Kept K w w' /\ ((e = .returned (.int .i64 81) /\ ¬ Fits M up i bef /\ RX K J w' p M R G) \/ (e = .returned (.int .i64 0) /\ Fits M up i bef /\ RX K J w' p (M.setP (zd8 M R up i bef)) (zdl M R up i bef) G)) := by
 have hge : ∀ k, k < M.n -> (M.pl k).up = -1 \/ 0 <= (M.pl k).up := fun k hk => by
  rcases hW.inn k hk with e | ⟨u, -, e, -⟩
  ·exact .inl e
  ·exact .inr (by omega)
 have hup : (M.pl i).up = -1 \/ ∃ u : Nat, u < M.n /\ (M.pl i).up = (u : Int) := by
  rcases hW.inn i hi with e | ⟨u, hu, e, -⟩
  ·exact .inl e
  ·exact .inr ⟨u, hu, e⟩
 have hrl : ∀ u, u < M.n -> (R u).length <= 1000000 := fun u hu => Nat.le_trans (hW.len_le hu) hn
 by_cases hF : RFits M up i
 ·have hbt : (true = true) ↔ RFits M up i := ⟨fun _ => hF, fun _ => rfl⟩
  have fits : (bef = -1 \/ ∃ m : Nat, m < M.n /\ bef = (m : Int) /\ (M.pl m).up = (up : Int)) -> Fits M up i bef := fun c => ⟨hF.1, hh.2 ⟨hF.2.1, hF.2.2.1⟩, hF.2.2.2, c⟩
  have frag : ∀ (hk : (M.nd i).kind = 4) (hFi : Fits M up i bef) (w' : World), RX K J w' p (rM M up ((R i).take (R i).length)) (rR M R up bef ((R i).take (R i).length)) G -> RX K J w' p (M.setP (zd8 M R up i bef)) (zdl M R up i bef) G := fun hk hFi w' hX => by
   have hP := Zcv.of hW ha hu hi hFi.2.2.1 hFi.2.2.2
   obtain ⟨-, -, -, -, -, e, g⟩ := zqn hP hn
   rw [List.take_length] at hX
   obtain ⟨k1, k2, k3⟩ := zi4 up (R i) M
   unfold zd8 zdl
   rw [if_pos hk, if_pos hk]
   exact hX.congr k3.symm k1.symm (fun j _ => by rw [k2]; rfl) (fun j _ => (g j).symm) (fun j _ => by rw [e]) (fun _ _ => rfl)
  have one : ∀ (hk : (M.nd i).kind ≠ 4) (hFi : Fits M up i bef) (b : Int) (he : b = if bef = (i : Int) then (M.pl i).next else bef) (w' : World), RX K J w' p (zbu M up i) (zbm M R up i b) G -> RX K J w' p (M.setP (zd8 M R up i bef)) (zdl M R up i bef) G := fun hk hFi b he w' hX => by
   have hP := Zcv.of hW ha hu hi hFi.2.2.1 hFi.2.2.2
   have := RX.put hW hu hi (by rw [he]; exact hP.one) hX
   unfold zd8 zdl
   rw [if_neg hk, if_neg hk, <- he]
   exact this
  rcases hb with rfl | ⟨m, hm, rfl⟩
  ·have hFi := fits (.inl rfl)
   by_cases hk : (M.nd i).kind = 4
   ·obtain ⟨f1, f2, f3, f4, f5, -⟩ := zqn (Zcv.of hW ha hu hi hFi.2.2.1 hFi.2.2.2) hn
    refine (zkn K p up i M R G rk w h ha hu hi hn hge true hbt rfl hk (hrl i hi) (fun k => rM M up ((R i).take k)) (fun k => rR M R up (-1) ((R i).take k)) rfl rfl f1 f2 f3 f4 f5).mono ?_
    rintro e w' ⟨rfl, hX, hK⟩
    exact ⟨hK, .inr ⟨rfl, hFi, frag hk hFi w' hX⟩⟩
   ·refine (zmu K p up i M R G rk w h ha hu hi hn hge true hbt rfl hk hup hrl).mono ?_
    rintro e w' ⟨rfl, hX, hK⟩
    exact ⟨hK, .inr ⟨rfl, hFi, one hk hFi (-1) (by rw [if_neg (by omega)]) w' hX⟩⟩
  ·by_cases hbu : (M.pl m).up = (up : Int)
   ·have hFi := fits (.inr ⟨m, hm, rfl, hbu⟩)
    by_cases hk : (M.nd i).kind = 4
    ·obtain ⟨f1, f2, f3, f4, f5, -⟩ := zqn (Zcv.of hW ha hu hi hFi.2.2.1 hFi.2.2.2) hn
     refine (zk3 K p up i M R G rk w h ha hu hi hn hge true hbt m hm hbu rfl hk (hrl i hi) (fun k => rM M up ((R i).take k)) (fun k => rR M R up (m : Int) ((R i).take k)) rfl rfl f1 f2 f3 f4 f5).mono ?_
     rintro e w' ⟨rfl, hX, hK⟩
     exact ⟨hK, .inr ⟨rfl, hFi, frag hk hFi w' hX⟩⟩
    ·by_cases hmi : m = i
     ·subst hmi
      rcases hW.inn m hm with e | ⟨u, hu2, e, hmem⟩
      ·omega
      have : u = up := by omega
      subst this
      obtain ⟨l, r, hs⟩ := zc5 hmem
      obtain ⟨-, hnx⟩ := hW.split hu2 hs
      have hnd := hW.nodup u hu2
      have hil : m ∉ l := fun hml => by
       rw [hs] at hnd
       exact (List.nodup_append.1 hnd).2.2 m hml m (List.mem_cons_self ..) rfl
      have hr : -1 <= hdD r (-1) /\ hdD r (-1) <= 1000000000 := by
       rcases zd0 r with ⟨-, e1⟩ | ⟨y, y1, e1⟩
       ·rw [e1]; omega
       ·have := hW.lt u hu2 y (by rw [hs]; exact List.mem_append_right _ (List.mem_cons_of_mem _ y1))
        rw [e1]; omega
      refine (zla K p u m M R G rk w h ha hu hi hn hge true hbt rfl hk hup hrl hbu l r hs hil hr.1 hr.2).mono ?_
      rintro e w' ⟨rfl, hX, hK⟩
      exact ⟨hK, .inr ⟨rfl, hFi, one hk hFi _ (by rw [if_pos rfl, hnx]) w' hX⟩⟩
     ·refine (zlj K p up i M R G rk w h ha hu hi hn hge true hbt rfl hk hup hrl m hm hbu hmi).mono ?_
      rintro e w' ⟨rfl, hX, hK⟩
      exact ⟨hK, .inr ⟨rfl, hFi, one hk hFi (m : Int) (by rw [if_neg (by omega)]) w' hX⟩⟩
   ·refine (zl3 K p up i M R G rk w h ha hu hi hn hge true hbt rfl m hm hbu).mono ?_
    rintro e w' ⟨rfl, hX, hK⟩
    refine ⟨hK, .inl ⟨rfl, fun c => ?_, hX⟩⟩
    rcases c.2.2.2 with e | ⟨m', -, e, hmu⟩
    ·omega
    ·have : m = m' := by omega
     subst this
     exact hbu hmu
 ·have hbf : (false = true) ↔ RFits M up i := ⟨fun e => (by cases e), fun e => absurd e hF⟩
  have nof : ¬ Fits M up i bef := fun c => hF ⟨c.1, (hh.1 c.2.1).1, (hh.1 c.2.1).2, c.2.2.1⟩
  rcases hb with rfl | ⟨m, hm, rfl⟩
  ·refine (znp K p up i M R G rk w h ha hu hi hn hge false hbf rfl).mono ?_
   rintro e w' ⟨rfl, hX, hK⟩
   exact ⟨hK, .inl ⟨rfl, nof, hX⟩⟩
  ·refine (zm8 K p up i M R G rk w h ha hu hi hn hge false hbf rfl m hm).mono ?_
   rintro e w' ⟨rfl, hX, hK⟩
   exact ⟨hK, .inl ⟨rfl, nof, hX⟩⟩
end
end Go.Proofs.YtfeinppedejlpaaGreat
