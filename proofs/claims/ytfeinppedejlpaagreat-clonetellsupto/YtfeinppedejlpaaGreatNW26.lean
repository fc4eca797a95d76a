/-
 Set and Drop: both documents' tests are the same one; what the program's refuse.; The statements' own Within.; The statements' own Heavy.; What is true of trees of a document (pure).
-/
import Derived.Test.YtfeinppedejlpaaGreatNW23
import Derived.Test.YtfeinppedejlpaaGreatNB19
import Derived.Test.YtfeinppedejlpaaGreatNW20
import Derived.Test.YtfeinppedejlpaaGreatNW25
import Derived.Test.YtfeinppedejlpaaGreatNB16
namespace Go.Proofs.YtfeinppedejlpaaGreat
set_option linter.unusedVariables false
set_option maxRecDepth 100000
set_option maxHeartbeats 8000000
section
open Go.RowKit
theorem zho : ∀ (l : List Atr) (L : List (List UInt8)) (k : Nat) (h : k < l.length) (a : Atr), l[k].name = a.name -> zcn L l = true -> zcn L (l.set k a) = zbg a
 | x :: r, L, 0, h, a, he, hw => by
  have he : x.name = a.name := he
  simp only [zcn, Bool.and_eq_true] at hw
  simp only [List.set_cons_zero, zcn]
  rw [<- he, hw.2, hw.1.2]
  simp
 | x :: r, L, k + 1, h, a, he, hw => by
  simp only [zcn, Bool.and_eq_true] at hw
  simp only [List.set_cons_succ, zcn]
  rw [zho r _ k (by simpa using h) a he hw.2, hw.1.1, hw.1.2]
  simp
theorem zh1 : ∀ (l : List Atr) (L : List (List UInt8)) (a : Atr), (∀ x ∈ l, x.name ≠ a.name) -> ¬ a.name ∈ L -> zcn L l = true -> zcn L (l ++ [a]) = zbg a
 | [], L, a, hn, hL, hw => by
  simp only [List.nil_append, zcn]
  simp [hL]
 | x :: r, L, a, hn, hL, hw => by
  simp only [zcn, Bool.and_eq_true] at hw
  simp only [List.cons_append, zcn]
  rw [zh1 r _ a (fun y hy => hn y (List.mem_cons_of_mem _ hy)) (fun hm => by
   rcases List.mem_cons.1 hm with hm | hm
   ·exact hn x (List.mem_cons_self ..) hm.symm
   ·exact hL hm) hw.2, hw.1.1, hw.1.2]
  simp
theorem zhm : ∀ (l : List Atr) (L L' : List (List UInt8)), (∀ n, n ∈ L' -> n ∈ L) -> zcn L l = true -> zcn L' l = true
 | [], _, _, _, _ => rfl
 | x :: r, L, L', hs, hw => by
  simp only [zcn, Bool.and_eq_true] at hw ⊢
  refine ⟨⟨hw.1.1, ?_⟩, zhm r _ _ (fun n hn => ?_) hw.2⟩
  ·have h2 := hw.1.2
   simp at h2 ⊢
   exact fun hm => h2 (hs _ hm)
  ·rcases List.mem_cons.1 hn with hn | hn
   ·exact hn ▸ List.mem_cons_self ..
   ·exact List.mem_cons_of_mem _ (hs n hn)
theorem zgf : ∀ (l : List Atr) (L : List (List UInt8)) (k : Nat), zcn L l = true -> zcn L (l.eraseIdx k) = true
 | [], _, _, _ => rfl
 | x :: r, L, 0, hw => by
  simp only [zcn, Bool.and_eq_true] at hw
  rw [List.eraseIdx_cons_zero]
  exact zhm r _ _ (fun n hn => List.mem_cons_of_mem _ hn) hw.2
 | x :: r, L, k + 1, hw => by
  simp only [zcn, Bool.and_eq_true] at hw
  rw [List.eraseIdx_cons_succ]
  simp only [zcn, Bool.and_eq_true]
  exact ⟨hw.1, zgf r _ k hw.2⟩
theorem zet {l : List Atr} (h : za3 l = true) (k : Nat) : za3 (l.eraseIdx k) = true := by
 unfold za3 at h ⊢
 simp only [Bool.and_eq_true, decide_eq_true_eq] at h ⊢
 exact ⟨Nat.le_trans (List.length_eraseIdx_le ..) h.1, zgf l [] k h.2⟩
theorem zk8 {l : List Atr} (h : za3 l = true) (a : Atr) {z : Int} (hz : Zc7 l a.name z) : za3 (setA l a) = (zbg a && !(decide (z = -1) && decide (50 <= l.length))) := by
 have hl := zc8 h
 have hw : zcn [] l = true := by
  unfold za3 at h
  simp only [Bool.and_eq_true] at h
  exact h.2
 cases hz with
 | no hn =>
  rw [zg0 l a hn]
  unfold za3
  rw [zh1 l [] a hn (by simp) hw, List.length_append, List.length_singleton]
  by_cases c : 50 <= l.length
  ·rw [decide_eq_false (by omega), decide_eq_true c]; simp
  ·rw [decide_eq_true (by omega), decide_eq_false c]; simp
 | @yes k hk e ha =>
  rw [zg4 l a k hk e ha]
  unfold za3
  rw [zho l [] k hk a e hw, List.length_set, decide_eq_true hl, decide_eq_false (show ¬ ((k : Int) = -1) by omega)]
  simp
theorem znm {nm : List UInt8} (hv : za6 nm = true) (l : List Atr) : za7 [⟨0, 1, nm, l, []⟩] = za3 l := by
 unfold za7
 simp [zbb, zbc, hv]
def zel (M : Dm) (i : Int) : Int := if 0 <= i /\ i < (M.n : Int) then (if (M.nd i.toNat).kind = 1 then 0 else 81) else 80
theorem zgb (K : Nat -> Prop) (p : Nat) (M : Dm) (i : Int) (w : World) (h : DX K w p M) (hn : M.n <= 1000000) (z : Int) (hz : zel M i = z) (h0 : z ≠ 0) :
  Calls Tryz.prog 135 #[.pointer (some ⟨p, 0, none⟩), .int .i64 i, .int .u16 81] w fun e w' => e = .returned (.tuple #[.pointer none, .int .u16 z]) /\ w' = w := by
 obtain ⟨ga, cap, hY⟩ := h
 unfold zel at hz
 by_cases hi : 0 <= i /\ i < (M.n : Int)
 ·rw [if_pos hi] at hz
  obtain ⟨k, rfl⟩ : ∃ k : Nat, i = (k : Int) := ⟨i.toNat, by omega⟩
  rw [Int.toNat_natCast] at hz
  have hk : k < M.n := by omega
  by_cases c : (M.nd k).kind = 1
  ·rw [if_pos c] at hz; exact absurd hz.symm h0
  ·rw [if_neg c] at hz
   subst hz
   obtain ⟨g, rfl, -, -, -⟩ := hY.at (by omega)
   obtain ⟨aa, ac, hc, -⟩ := hY.cell hk
   exact zd2 p g M.n cap k _ 81 w hY.c1 hk (by omega) c (hc 0 _ rfl)
 ·rw [if_neg hi] at hz
  subst hz
  exact ze1 p M.n cap ga i 81 w hY.c1 (by omega) (by omega)
theorem zq0 (K : Nat -> Prop) (p : Nat) (M : Dm) (i : Int) (S T : ByteArray) (w : World) (h : DX K w p M) (hn : M.n <= 1000000) (z : Int) (hz : zel M i = z) (h0 : z ≠ 0) :
  Calls Tryz.prog 62 #[.pointer (some ⟨p, 0, none⟩), .int .i64 i, .string S, .string T] w fun e w' => e = .returned (.int .u16 z) /\ w' = w := by
 have re := zgb K p M i w h hn z hz h0
 have z0 : (z != 0) = true := by simpa using h0
 clear h hz
 go_enter Tryz.func62, Tryz.ntmps62
 go_wp2_with (go_at_call 135; refine re.mono ?_; rintro e1 w3 ⟨rfl, hw3⟩; replace hw3 := hw3.symm; subst hw3)
 go_ret
 exact ⟨rfl, rfl⟩
theorem zqi (K : Nat -> Prop) (p : Nat) (M : Dm) (i : Int) (S : ByteArray) (w : World) (h : DX K w p M) (hn : M.n <= 1000000) (z : Int) (hz : zel M i = z) (h0 : z ≠ 0) :
  Calls Tryz.prog 99 #[.pointer (some ⟨p, 0, none⟩), .int .i64 i, .string S] w fun e w' => e = .returned (.int .u16 z) /\ w' = w := by
 have re := zgb K p M i w h hn z hz h0
 have z0 : (z != 0) = true := by simpa using h0
 clear h hz
 go_enter Tryz.func99, Tryz.ntmps99
 go_wp2_with (go_at_call 135; refine re.mono ?_; rintro e1 w3 ⟨rfl, hw3⟩; replace hw3 := hw3.symm; subst hw3)
 go_ret
 exact ⟨rfl, rfl⟩
end
section
open Go.RowKit
def zf6 (n : Nat) (z : Int) : Nat := z.toNat % n
def Opx.within (o : Opx) (n : Nat) : Opx := if o.inn = false then o else { o with a := (zf6 n o.a : Int), b := (zf6 n o.b : Int), c := if 0 <= o.c then (zf6 n o.c : Int) else -1, l := o.l.map fun z => (zf6 n z : Int) }
abbrev opV (o : Opx) (A : OpA) : Value := .agg (opC o A).toArray
theorem zcz (cs : Array Value) (h : cs.size = 17) : (Tryz.prog.info? 50).map (·.size) = some cs.size := by rw [h]; kernel_rfl
theorem zff (o : Opx) (A : OpA) : (opC o A).toArray.all (·.oneCell') = true := by unfold opC; kernel_rfl
abbrev zca : Array Value := #[.int .u8 0, .int .i64 0, .int .i64 0, .int .i64 0, .bool false, .int .u8 0, .string ⟨#[]⟩, .string ⟨#[]⟩, .slice none 0 0, .string ⟨#[]⟩, .string ⟨#[]⟩, .slice none 0 0, .bool false, .bool false, .bool false, .bool false, .bool false]
theorem zjp (w : World) (a b : Obj) : ((w.alloc a).alloc b).heap[w.heap.size]? = some a /\ ((w.alloc a).alloc b).heap[w.heap.size + 1]? = some b := by
 constructor
 ·rw [Below.heap_alloc _ _ _ (by simp)]; exact heap_alloc_new w a
 ·have := heap_alloc_new (w.alloc a) b
  simpa using this
theorem zjn (w : World) (a b : Obj) : Kept (fun j => j < w.heap.size) w ((w.alloc a).alloc b) :=
 ((Kept.refl _ w).alloc (fun _ h => h) a).alloc (fun k h => by simp; omega) b
theorem zkv (o : Opx) (A : OpA) (n : Nat) (ho : o.inn = false) (w : World) :
  Calls Tryz.prog 92 #[opV o A, .int .i64 (n : Int)] w fun e w' => e = .returned (opV o A) /\ Kept (fun k => k < w.heap.size) w w' := by
 obtain ⟨N, hN⟩ : ∃ N, w.heap.size = N := ⟨_, rfl⟩
 have HN : Hid (w.heap.size = N) := hN
 obtain ⟨cs, hcs⟩ : ∃ cs, (opC o A).toArray = cs := ⟨_, rfl⟩
 have hsz : cs.size = 17 := by rw [<- hcs]; rfl
 have hone : cs.all (·.oneCell') = true := by rw [<- hcs]; exact zff o A
 have h4 : cs[4]? = some (.bool false) := by rw [<- hcs]; show some (Value.bool o.inn) = _; rw [ho]
 show Calls Tryz.prog 92 #[.agg (opC o A).toArray, _] w fun e w' => e = .returned (.agg (opC o A).toArray) /\ _
 rw [hcs]
 obtain ⟨W, hW⟩ : ∃ W, (w.alloc (.cells cs 50)).alloc (.cells zca 50) = W := ⟨_, rfl⟩
 have HW : Hid ((w.alloc (.cells cs 50)).alloc (.cells zca 50) = W) := hW
 have hb := zjp w (.cells cs 50) (.cells zca 50)
 have hk := zjn w (.cells cs 50) (.cells zca 50)
 rw [hW, hN] at hb
 rw [hW] at hk
 have c4 : W.cell? ⟨N, 4, none⟩ = some (.bool false) := by rw [zaa hb.1]; exact h4
 have hb0 := hb.1
 have hb1 := hb.2
 have HA : Hid ((W.setRow (N + 1) cs).heap[N + 1]? = some (.cells cs 50 (0, 0))) := setRow_heap _ _ _ _ _ _ hb1
 have HKA : Hid (Kept (fun k => k < N) w (W.setRow (N + 1) cs)) := zaq (by rw [hN] at hk; exact hk) (by omega) _
 clear hW hN hb hcs hk h4 ho
 go_enter Tryz.func92, Tryz.ntmps92
 go_upto_region 1 with fail
 rw [HW.out, HN.out]
 clear HW
 go_wp2_with (first | (refine wpList_load_row rfl 50 _ rfl N rfl 50 cs (0, 0) _ hb0 Tryz.underlying50 rfl (zcz _ hsz) ?_) | (refine wpList_store_row rfl 50 _ _ rfl (N + 1) cs rfl rfl 50 _ hb1 (zcz _ hsz) (by rw [hsz]; rfl) hone ?_))
 refine bodyPost_ret (results_cell_row (p := 4) (ty := 50) rfl _ _ (N + 1) 50 _ _ _ rfl HA.out Tryz.underlying50 rfl (zcz _ hsz)) rfl ?_
 exact ⟨rfl, by rw [HN.out]; exact HKA.out⟩
theorem zci {w : World} {g : Nat} {l : List Value} {t : TypeId} (h : w.heap[g]? = some (.cells l.toArray t (0, 0))) (i : Nat) (v : Value) : (w.setCell ⟨g, i, none⟩ v).heap[g]? = some (.cells (l.set i v).toArray t (0, 0)) := by
 rw [zai h i v]
 simp
theorem zm4 (o : Opx) (A : OpA) (n : Nat) (h1 : 1 <= n) (hn : n <= 1000000) (ho : o.inn = true) (hl : o.l.length <= 1000000) (w : World) (hA : Zbo (fun k => k < w.heap.size) w A.la o.l) :
  Calls Tryz.prog 92 #[opV o A, .int .i64 (n : Int)] w fun e w' => ∃ ao c, e = .returned (opV (o.within n) { A with la := ao, lc := c }) /\ Zac (fun k => k < w.heap.size) w' 3 1 ao o.l.length c (ivs (o.l.map (zf6 n))) /\ Kept (fun k => k < w.heap.size) w w' := by
 obtain ⟨N, hN⟩ : ∃ N, w.heap.size = N := ⟨_, rfl⟩
 have HN : Hid (w.heap.size = N) := hN
 obtain ⟨kd, kd'⟩ : ∃ z, o.k = z := ⟨_, rfl⟩
 obtain ⟨za, za'⟩ : ∃ z, o.a = z := ⟨_, rfl⟩
 obtain ⟨zb, zb'⟩ : ∃ z, o.b = z := ⟨_, rfl⟩
 obtain ⟨zc, zc'⟩ : ∃ z, o.c = z := ⟨_, rfl⟩
 obtain ⟨ln, hln⟩ : ∃ ln, o.l.length = ln := ⟨_, rfl⟩
 obtain ⟨ro, hro⟩ : ∃ ro : List Value, [.int .u8 (o.nk : Int), .string o.nn, .string o.nd, .slice A.aa o.ats.length A.ac, .string o.s, .string o.t] = ro := ⟨_, rfl⟩
 obtain ⟨la, hla⟩ : ∃ la, A.la = la := ⟨_, rfl⟩
 obtain ⟨lc, hlc⟩ : ∃ lc, A.lc = lc := ⟨_, rfl⟩
 obtain ⟨L, hL⟩ : ∃ L, o.l = L := ⟨_, rfl⟩
 obtain ⟨ia, hia⟩ : ∃ z, zf6 n za = z := ⟨_, rfl⟩
 obtain ⟨ib, hib⟩ : ∃ z, zf6 n zb = z := ⟨_, rfl⟩
 obtain ⟨ic, hic⟩ : ∃ z, zf6 n zc = z := ⟨_, rfl⟩
 have ra : ∀ X, Calls Tryz.prog 167 #[.int .i64 za, .int .i64 (n : Int)] X fun e w' => e = .returned (.int .i64 (ia : Int)) /\ w' = X := fun X => by rw [<- hia]; exact zdk za n h1 hn X
 have rb : ∀ X, Calls Tryz.prog 167 #[.int .i64 zb, .int .i64 (n : Int)] X fun e w' => e = .returned (.int .i64 (ib : Int)) /\ w' = X := fun X => by rw [<- hib]; exact zdk zb n h1 hn X
 have rc : ∀ X, Calls Tryz.prog 167 #[.int .i64 zc, .int .i64 (n : Int)] X fun e w' => e = .returned (.int .i64 (ic : Int)) /\ w' = X := fun X => by rw [<- hic]; exact zdk zc n h1 hn X
 have RL : Hid (∀ z X, Calls Tryz.prog 167 #[.int .i64 z, .int .i64 (n : Int)] X fun e w' => e = .returned (.int .i64 (zf6 n z : Int)) /\ w' = X) := fun z X => zdk z n h1 hn X
 obtain ⟨c2, hc2⟩ : ∃ c2 : Int, (if 0 <= zc then (zf6 n zc : Int) else -1) = c2 := ⟨_, rfl⟩
 rw [hic] at hc2
 have hw : ∀ ao c, opC (o.within n) { A with la := ao, lc := c } = [.int .u8 (kd : Int), .int .i64 (ia : Int), .int .i64 (ib : Int), .int .i64 c2, .bool true, .int .u8 (o.nk : Int), .string o.nn, .string o.nd, .slice A.aa o.ats.length A.ac, .string o.s, .string o.t, .slice ao ln c, .bool o.f.a, .bool o.f.b, .bool o.f.c, .bool o.f.d, .bool o.f.e] := fun ao c => by
  have e : o.within n = { o with a := (zf6 n o.a : Int), b := (zf6 n o.b : Int), c := if 0 <= o.c then (zf6 n o.c : Int) else -1, l := o.l.map fun z => (zf6 n z : Int) } := if_neg (by rw [ho]; decide)
  rw [e, <- hc2, <- hic, <- hib, <- hia, <- zc', <- zb', <- za', <- kd', <- hln]
  simp only [opC, ho, List.length_map]
 have hv : opV o A = .agg #[.int .u8 (kd : Int), .int .i64 za, .int .i64 zb, .int .i64 zc, .bool true, .int .u8 (o.nk : Int), .string o.nn, .string o.nd, .slice A.aa o.ats.length A.ac, .string o.s, .string o.t, .slice la ln lc, .bool o.f.a, .bool o.f.b, .bool o.f.c, .bool o.f.d, .bool o.f.e] := by
  rw [<- zc', <- zb', <- za', <- kd', <- hln, <- hla, <- hlc]
  simp only [opV, opC, ho]
 rw [hv]
 have HWI : Hid (∀ ao c, opC (o.within n) { A with la := ao, lc := c } = [.int .u8 (kd : Int), .int .i64 (ia : Int), .int .i64 (ib : Int), .int .i64 c2, .bool true, .int .u8 (o.nk : Int), .string o.nn, .string o.nd, .slice A.aa o.ats.length A.ac, .string o.s, .string o.t, .slice ao ln c, .bool o.f.a, .bool o.f.b, .bool o.f.c, .bool o.f.d, .bool o.f.e]) := hw
 have HA : Hid (Zbo (fun k => k < w.heap.size) w la L) := by rw [<- hla, <- hL]; exact hA
 have HLN : Hid (L.length = ln) := by rw [<- hL]; exact hln
 have hll : ln <= 1000000 := by rw [<- hln]; exact hl
 rw [hln, hL]
 obtain ⟨LM, hLM⟩ : ∃ LM, L.map (zf6 n) = LM := ⟨_, rfl⟩
 rw [hLM]
 have HLM : Hid (L.map (zf6 n) = LM) := hLM
 clear hLM
 obtain ⟨nk, hnk⟩ : ∃ z, o.nk = z := ⟨_, rfl⟩
 obtain ⟨nn, hnn⟩ : ∃ z, o.nn = z := ⟨_, rfl⟩
 obtain ⟨nd, hnd⟩ : ∃ z, o.nd = z := ⟨_, rfl⟩
 obtain ⟨an, han⟩ : ∃ z, o.ats.length = z := ⟨_, rfl⟩
 obtain ⟨ss, hss⟩ : ∃ z, o.s = z := ⟨_, rfl⟩
 obtain ⟨tt, htt⟩ : ∃ z, o.t = z := ⟨_, rfl⟩
 obtain ⟨f, hf⟩ : ∃ z, o.f = z := ⟨_, rfl⟩
 rw [hnk, hnn, hnd, han, hss, htt, hf] at HWI ⊢
 clear hv hw hA hL hla hlc hro kd' za' zb' zc' hln hl hnk hnn hnd han hss htt hf ho hia hib hic
 obtain ⟨W, hW⟩ : ∃ W, (w.alloc (.cells #[.int .u8 (kd : Int), .int .i64 (ia : Int), .int .i64 (ib : Int), .int .i64 c2, .bool true, .int .u8 (nk : Int), .string nn, .string nd, .slice A.aa an A.ac, .string ss, .string tt, .slice la ln lc, .bool f.a, .bool f.b, .bool f.c, .bool f.d, .bool f.e] 50)).alloc (.cells zca 50) = W := ⟨_, rfl⟩
 have hb := zjp w (.cells #[.int .u8 (kd : Int), .int .i64 (ia : Int), .int .i64 (ib : Int), .int .i64 c2, .bool true, .int .u8 (nk : Int), .string nn, .string nd, .slice A.aa an A.ac, .string ss, .string tt, .slice la ln lc, .bool f.a, .bool f.b, .bool f.c, .bool f.d, .bool f.e] 50) (.cells zca 50)
 have hk := zjn w (.cells #[.int .u8 (kd : Int), .int .i64 (ia : Int), .int .i64 (ib : Int), .int .i64 c2, .bool true, .int .u8 (nk : Int), .string nn, .string nd, .slice A.aa an A.ac, .string ss, .string tt, .slice la ln lc, .bool f.a, .bool f.b, .bool f.c, .bool f.d, .bool f.e] 50) (.cells zca 50)
 rw [hW, hN] at hb
 rw [hW] at hk
 have HB : Hid (W.heap[N]? = some (.cells [.int .u8 (kd : Int), .int .i64 (ia : Int), .int .i64 (ib : Int), .int .i64 c2, .bool true, .int .u8 (nk : Int), .string nn, .string nd, .slice A.aa an A.ac, .string ss, .string tt, .slice la ln lc, .bool f.a, .bool f.b, .bool f.c, .bool f.d, .bool f.e].toArray 50 (0, 0)) /\ W.heap[N + 1]? = some (.cells zca 50 (0, 0))) := hb
 have HKW : Hid (Kept (fun k => k < N) w W) := by rw [hN] at hk; exact hk
 have HW : Hid ((w.alloc (.cells #[.int .u8 (kd : Int), .int .i64 (ia : Int), .int .i64 (ib : Int), .int .i64 c2, .bool true, .int .u8 (nk : Int), .string nn, .string nd, .slice A.aa an A.ac, .string ss, .string tt, .slice la ln lc, .bool f.a, .bool f.b, .bool f.c, .bool f.d, .bool f.e] 50)).alloc (.cells zca 50) = W) := hW
 have HC2 : Hid ((if 0 <= zc then (ic : Int) else -1) = c2) := hc2
 clear hW hb hk hN hc2
 go_enter Tryz.func92, Tryz.ntmps92
 go_upto_if 23 with (first | (go_at_call 167; with_reducible refine (ra _).mono ?_; rintro e w1 ⟨rfl, hw1⟩; replace hw1 := hw1.symm; subst hw1) | (go_at_call 167; with_reducible refine (rb _).mono ?_; rintro e w1 ⟨rfl, hw1⟩; replace hw1 := hw1.symm; subst hw1))
 go_cut [] (fun wx => wx = W)
 case first =>
  by_cases hz : 0 <= zc
  ·have e0 : decide (zc >= 0) = true := decide_eq_true hz
   have e1 : decide (0 <= zc) = true := decide_eq_true hz
   have hc : c2 = (ic : Int) := by rw [<- HC2.out, if_pos hz]
   clear HC2
   subst hc
   go_wp2_with (go_at_call 167; with_reducible refine (rc _).mono ?_; rintro e w1 ⟨rfl, hw1⟩; replace hw1 := hw1.symm; subst hw1)
   go_meet
   case rel => exact HW.out
  ·have e0 : decide (zc >= 0) = false := decide_eq_false hz
   have e1 : decide (0 <= zc) = false := decide_eq_false hz
   have hc : c2 = -1 := by rw [<- HC2.out, if_neg hz]
   clear HC2
   subst hc
   go_wp2
   go_meet
   case rel => exact HW.out
 case rest =>
  subst hcut
  have c11 : wc.cell? ⟨N, 11, none⟩ = some (.slice la ln lc) := by rw [zaa HB.out.1]; rfl
  have hNl : N < wc.heap.size := zad HB.out.1
  obtain ⟨W, hW⟩ : ∃ W, wc = W := ⟨_, rfl⟩
  subst hW
  clear ra rb rc HC2 HW
  rw [HN.out]
  go_upto_region 10 with fail
  go_loopg [5, 6] ln (fun gh v5 v6 wr => ∃ (k : Nat) (ao : Option Addr) (c : Nat), gh = ln - k /\ k <= ln /\ v6 = .int .i64 (k : Int) /\ v5 = .slice ao k c /\ Zac (fun k => k < wc.heap.size) wr 3 1 ao k c (ivs ((L.take k).map (zf6 n))) /\ Kept (fun k => k < wc.heap.size) wc wr)
  case atStart => exact ⟨0, none, 0, rfl, Nat.zero_le _, rfl, rfl, Zac.nil _ _ _ _, Kept.refl _ _⟩
  case round =>
   obtain ⟨k, ao, c, hgk, hk, rfl, rfl, hO, hK⟩ := hrel
   have d11 : wr.cell? ⟨N, 11, none⟩ = some (.slice la ln lc) := (hK.cell (p := ⟨N, 11, none⟩) hNl).trans c11
   by_cases hlt : k < ln
   ·have hll' : k < L.length := by rw [HLN.out]; exact hlt
    obtain ⟨g1, o1, rfl, hg1, hc1⟩ := HA.out k hll'
    have d : wr.cell? ⟨g1, o1 + k, none⟩ = some (.int .i64 L[k]) := (hK.cell (p := ⟨g1, o1 + k, none⟩) (ltl hg1 HKW.out.size)).trans ((HKW.out.cell (p := ⟨g1, o1 + k, none⟩) (by rw [<- HN.out]; exact hg1)).trans hc1)
    have htk : L.take (k + 1) = L.take k ++ [L[k]] := List.take_succ_eq_append_getElem hll'
    obtain ⟨z, hz⟩ : ∃ z, L[k] = z := ⟨_, rfl⟩
    rw [hz] at d htk
    have rl := RL.out z wr
    obtain ⟨iz, hiz⟩ : ∃ iz, zf6 n z = iz := ⟨_, rfl⟩
    rw [hiz] at rl
    obtain ⟨ao', c', w', hr', hO', hK'⟩ := zow hO (fun k hk => ltl hk hK.size) (by omega) (iz : Int)
    have HO2 : Hid (Zac (fun k => k < wc.heap.size) w' 3 1 ao' (k + 1) c' (ivs ((L.take (k + 1)).map (zf6 n)))) := by
     rw [htk, List.map_append, ivs, List.map_append, List.map_cons, List.map_nil, hiz]; exact (show Hid _ from hO')
    have HK2 : Hid (Kept (fun k => k < wc.heap.size) wc w') := hK.trans hK'
    clear hO hK hc1 hz hiz htk hO' hK'
    go_wp2_with (first | (go_at_call 167; refine rl.mono ?_; rintro e w1 ⟨rfl, hw1⟩; replace hw1 := hw1.symm; subst hw1) | (at_builtin; refine zak (w' := w') rfl (.tmp 37) (.tmp 45) 33 33 rfl _ _ (.slice ao' (k + 1) c') rfl rfl hr' ?_))
    go_roundg (ln - (k + 1))
    case rel => exact ⟨k + 1, ao', c', rfl, by omega, by go_num, rfl, HO2.out, HK2.out⟩
    case measure => omega
   ·have hkn : ln = k := by omega
    subst hkn
    have hall : L.take ln = L := List.take_of_length_le (by rw [HLN.out]; exact Nat.le_refl _)
    rw [hall, HLM.out] at hO
    have hb0 : wr.heap[N]? = _ := (hK.block N hNl).trans HB.out.1
    have hb1 : wr.heap[N + 1]? = _ := (hK.block (N + 1) (zad HB.out.2)).trans HB.out.2
    have fz : wr.frozen? ⟨N, 11, none⟩ = false := zao hb0 11
    have hs0 := zci hb0 11 (.slice ao ln c)
    have hne : (⟨N, 11, none⟩ : Addr).block ≠ N + 1 := by show N ≠ N + 1; omega
    obtain ⟨V, hV⟩ : ∃ V, wr.setCell ⟨N, 11, none⟩ (.slice ao ln c) = V := ⟨_, rfl⟩
    have hs1 : V.heap[N + 1]? = some (.cells zca 50 (0, 0)) := by rw [<- hV, Below.heap_setCell _ _ _ _ (fun e => by have e : N + 1 = N := e; omega)]; exact hb1
    rw [hV] at hs0
    have HV : Hid (wr.setCell ⟨N, 11, none⟩ (.slice ao ln c) = V) := hV
    obtain ⟨cs, hcs⟩ : ∃ cs : Array Value, (([.int .u8 (kd : Int), .int .i64 (ia : Int), .int .i64 (ib : Int), .int .i64 c2, .bool true, .int .u8 (nk : Int), .string nn, .string nd, .slice A.aa an A.ac, .string ss, .string tt, .slice la ln lc, .bool f.a, .bool f.b, .bool f.c, .bool f.d, .bool f.e] : List Value).set 11 (.slice ao ln c)).toArray = cs := ⟨_, rfl⟩
    rw [hcs] at hs0
    have hsz : cs.size = 17 := by rw [<- hcs]; rfl
    have HCS : Hid ((opC (o.within n) { A with la := ao, lc := c }).toArray = cs) := by rw [HWI.out, <- hcs]; exact (show Hid _ from rfl)
    have hone : cs.all (·.oneCell') = true := by rw [<- HCS.out]; exact zff _ _
    have HO : Hid (Zac (fun k => k < wc.heap.size) wr 3 1 ao ln c (ivs LM)) := hO
    have HK : Hid (Kept (fun k => k < wc.heap.size) wc wr) := hK
    have HANS : Hid ((V.setRow (N + 1) cs).heap[N + 1]? = some (.cells cs 50 (0, 0))) := setRow_heap _ _ _ _ _ _ hs1
    clear hO hK hV hcs hall
    go_upto_region 14 with fail
    rw [HV.out]
    go_wp2_with (first | (refine wpList_load_row rfl 50 _ rfl N rfl 50 cs (0, 0) _ hs0 Tryz.underlying50 rfl (zcz _ hsz) ?_) | (refine wpList_store_row rfl 50 _ _ rfl (N + 1) cs rfl rfl 50 _ hs1 (zcz _ hsz) (by rw [hsz]; rfl) hone ?_))
    refine bodyPost_ret (results_cell_row (p := 4) (ty := 50) rfl _ _ (N + 1) 50 _ _ _ rfl HANS.out Tryz.underlying50 rfl (zcz _ hsz)) rfl ?_
    have kV : Kept (fun k => k < N) w wr := HKW.out.trans (HK.out.mono fun k h => by omega)
    refine ⟨ao, c, by rw [opV, HCS.out], ?_, by rw [HN.out, <- HV.out]; exact zaq (kV.setCell (p := ⟨N, 11, none⟩) (by show ¬ N < N; omega) _) (by omega) _⟩
    refine Zac.to HO.out (fun g hg hh => (HO.out.out hg).1 (by rw [HN.out] at hh; show g < wc.heap.size; omega)) (fun g hg => ?_)
    have hgn := (HO.out.out hg).1
    have hgN : g ≠ N := fun e => hgn (by rw [e]; exact hNl)
    have hgN1 : g ≠ N + 1 := fun e => hgn (by rw [e]; exact zad HB.out.2)
    rw [setRow_other _ _ _ _ hgN1, <- HV.out, Below.heap_setCell _ _ _ _ (fun e => hgN (by have e : g = N := e; exact e))]
end
section
open Go.RowKit
theorem znt (l : List Opx) (n : Nat) (hln : l.length = n) (hnn : n <= 1000000000) (a : Option Addr) (c : Nat) (hb : zdg l <= 2000000) (w : World) (h : Zf4 (fun k => k < w.heap.size) w a l) :
  Calls Tryz.prog 25 #[.slice a n c] w fun e w' => e = .returned (.int .i64 (zdg l : Int)) /\ Kept (fun k => k < w.heap.size) w w' := by
 have HL : Hid (l.length = n) := hln
 have HB : Hid (zdg l <= 2000000) := hb
 have HH : Hid (Zf4 (fun k => k < w.heap.size) w a l) := h
 clear hln hb h
 go_enter Tryz.func25, Tryz.ntmps25
 go_upto_region 3 with fail
 go_loopg [3, 4] n (fun gh v3 v4 wr => ∃ k : Nat, gh = n - k /\ k <= n /\ v4 = .int .i64 (k : Int) /\ v3 = .int .i64 (zdg (l.take k) : Int) /\ Kept (fun k => k < w.heap.size) w wr)
 case atStart => exact ⟨0, rfl, Nat.zero_le _, rfl, rfl, Kept.refl _ _⟩
 case round =>
  obtain ⟨k, hgk, hk, rfl, rfl, hK⟩ := hrel
  by_cases hlt : k < n
  ·have hll : k < l.length := by rw [HL.out]; exact hlt
   obtain ⟨g, o, A, rfl, hg, hA, hc⟩ := HH.out k hll
   have htk : l.take (k + 1) = l.take k ++ [l[k]] := List.take_succ_eq_append_getElem hll
   have hsum : zdg (l.take (k + 1)) = zdg (l.take k) + opH l[k] := by rw [htk, zdw]; simp [zdg]
   have hle : zdg (l.take (k + 1)) <= 2000000 := by
    have e : zdg l = zdg (l.take (k + 1)) + zdg (l.drop (k + 1)) := by rw [<- zdw, List.take_append_drop]
    have := HB.out
    omega
   obtain ⟨x, hx⟩ : ∃ x, l[k] = x := ⟨_, rfl⟩
   rw [hx] at hA hc hsum
   obtain ⟨t0, ht0⟩ : ∃ t0, zdg (l.take k) = t0 := ⟨_, rfl⟩
   rw [ht0] at hsum ⊢
   have cell : ∀ f u, (opC x A)[f]? = some u -> wr.cell? ⟨g, o + k * 17 + f, none⟩ = some u := fun f u hu => (hK.cell (p := ⟨g, o + k * 17 + f, none⟩) hg).trans (hc f u hu)
   have c9 := cell 9 (.string x.s) rfl
   have c10 := cell 10 (.string x.t) rfl
   have c11 := cell 11 (.slice A.la x.l.length A.lc) rfl
   have c6 := cell 6 (.string x.nn) rfl
   have c7 := cell 7 (.string x.nd) rfl
   have c8 := cell 8 (.slice A.aa x.ats.length A.ac) rfl
   have c6' : wr.cell? ⟨g, o + k * 17 + 5 + 1, none⟩ = some (.string x.nn) := c6
   have c7' : wr.cell? ⟨g, o + k * 17 + 5 + 2, none⟩ = some (.string x.nd) := c7
   have c8' : wr.cell? ⟨g, o + k * 17 + 5 + 3, none⟩ = some (.slice A.aa x.ats.length A.ac) := c8
   unfold opH at hsum
   have HSUM : Hid (zdg (l.take (k + 1)) = t0 + (5 + x.s.size + x.t.size + x.l.length + x.nn.size + x.nd.size + zcx x.ats)) := hsum
   have hbnd : t0 + (5 + x.s.size + x.t.size + x.l.length + x.nn.size + x.nd.size + zcx x.ats) <= 2000000 := by rw [<- hsum]; exact hle
   obtain ⟨n1, hn1⟩ : ∃ z, x.s.size = z := ⟨_, rfl⟩
   obtain ⟨n2, hn2⟩ : ∃ z, x.t.size = z := ⟨_, rfl⟩
   obtain ⟨n3, hn3⟩ : ∃ z, x.l.length = z := ⟨_, rfl⟩
   obtain ⟨n4, hn4⟩ : ∃ z, x.nn.size = z := ⟨_, rfl⟩
   obtain ⟨n5, hn5⟩ : ∃ z, x.nd.size = z := ⟨_, rfl⟩
   obtain ⟨n6, hn6⟩ : ∃ z, x.ats.length = z := ⟨_, rfl⟩
   obtain ⟨n7, hn7⟩ : ∃ z, zcx x.ats = z := ⟨_, rfl⟩
   clear hsum hle htk ht0 hc cell
   go_upto_region 5 with fail
   go_quiet (fail)
   obtain ⟨B, hB⟩ : ∃ B, t0 + (5 + n1 + n2 + n3 + n4 + n5) = B := ⟨_, rfl⟩
   have hB' : (t0 : Int) + (5 + (n1 : Int) + (n2 : Int) + (n3 : Int) + (n4 : Int) + (n5 : Int)) = (B : Int) := by rw [<- hB]; omega
   have hBb : B + n7 <= 2000000 := by omega
   have HBS : Hid (zdg (l.take (k + 1)) = B + zcx x.ats) := by
    have := HSUM.out
    have : zdg (l.take (k + 1)) = B + zcx x.ats := by omega
    exact (show Hid _ from this)
   have HN7 : Hid (zcx x.ats = n7) := hn7
   have HN6 : Hid (x.ats.length = n6) := hn6
   have HAT : Hid (Zag (fun k => k < w.heap.size) w A.aa x.ats) := hA.1
   have hK5 : Kept (fun k => k < w.heap.size) w (wr.drewN nq) := hK.drewN nq
   have d8 : ∀ X, Kept (fun k => k < w.heap.size) (wr.drewN nq) X -> X.cell? ⟨g, o + k * 17 + 8, none⟩ = some (.slice A.aa n6 A.ac) := fun X hX => (hX.cell (p := ⟨g, o + k * 17 + 8, none⟩) hg).trans (by rw [<- hn6]; exact c8)
   rw [hB']
   obtain ⟨W5, hW5⟩ : ∃ W5, wr.drewN nq = W5 := ⟨_, rfl⟩
   rw [hW5] at hK5 d8 ⊢
   have HK5 : Hid (Kept (fun k => k < w.heap.size) w W5) := hK5
   have HD8 : Hid (∀ X, Kept (fun k => k < w.heap.size) W5 X -> X.cell? ⟨g, o + k * 17 + 8, none⟩ = some (.slice A.aa n6 A.ac)) := d8
   have hn6b : n6 <= 2000000 := by
    have := zjv x.ats
    omega
   clear hW5 hK5 d8 c6 c7 c8 c6' c7' c8' c9 c10 c11 hn1 hn2 hn3 hn4 hn5 hn6 hn7 hB hB' hbnd hK hA HSUM hx
   obtain ⟨W6, rfl⟩ : ∃ W6, W6 = wr := ⟨_, rfl⟩
   go_upto_region 7 with fail
   go_loopg [3, 5] n6 (fun gh v3 v5 wy => ∃ j : Nat, gh = n6 - j /\ j <= n6 /\ v5 = .int .i64 (j : Int) /\ v3 = .int .i64 ((B + zcx (x.ats.take j) : Nat) : Int) /\ Kept (fun k => k < w.heap.size) W5 wy)
   case atStart => exact ⟨0, rfl, Nat.zero_le _, rfl, rfl, Kept.refl _ _⟩
   case round =>
    obtain ⟨j, hgj, hj, rfl, rfl, hKj⟩ := hrel
    have e8 := HD8.out wr hKj
    have e8' : wr.cell? ⟨g, o + k * 17 + 5 + 3, none⟩ = some (.slice A.aa n6 A.ac) := e8
    by_cases hjl : j < n6
    ·have hja : j < x.ats.length := by rw [HN6.out]; exact hjl
     have htj : x.ats.take (j + 1) = x.ats.take j ++ [x.ats[j]] := List.take_succ_eq_append_getElem hja
     have hsj : zcx (x.ats.take (j + 1)) = zcx (x.ats.take j) + (1 + x.ats[j].name.length + x.ats[j].value.length) := by rw [htj, zds]; simp [zcx]
     have hle : zcx (x.ats.take (j + 1)) <= n7 := by
      have e : zcx x.ats = zcx (x.ats.take (j + 1)) + zcx (x.ats.drop (j + 1)) := by rw [<- zds, List.take_append_drop]
      have := HN7.out
      omega
     obtain ⟨g2, o2, haa, hg2, a0, a1⟩ := HAT.out j hja
     have b0 : wr.cell? ⟨g2, o2 + j * 2, none⟩ = some (sv x.ats[j].name) := (hKj.cell (p := ⟨g2, o2 + j * 2, none⟩) hg2).trans ((HK5.out.cell (p := ⟨g2, o2 + j * 2, none⟩) hg2).trans a0)
     have b1 : wr.cell? ⟨g2, o2 + j * 2 + 1, none⟩ = some (sv x.ats[j].value) := (hKj.cell (p := ⟨g2, o2 + j * 2 + 1, none⟩) hg2).trans ((HK5.out.cell (p := ⟨g2, o2 + j * 2 + 1, none⟩) hg2).trans a1)
     rw [haa] at e8 e8'
     obtain ⟨y, hy⟩ : ∃ y, x.ats[j] = y := ⟨_, rfl⟩
     rw [hy] at b0 b1 hsj
     obtain ⟨S1, hS1⟩ : ∃ S1 : ByteArray, ⟨y.name.toArray⟩ = S1 := ⟨_, rfl⟩
     obtain ⟨S2, hS2⟩ : ∃ S2 : ByteArray, ⟨y.value.toArray⟩ = S2 := ⟨_, rfl⟩
     have q1 : S1.size = y.name.length := by rw [<- hS1]; simp [ByteArray.size]
     have q2 : S2.size = y.value.length := by rw [<- hS2]; simp [ByteArray.size]
     have b0' : wr.cell? ⟨g2, o2 + j * 2, none⟩ = some (.string S1) := by rw [<- hS1]; exact b0
     have b1' : wr.cell? ⟨g2, o2 + j * 2 + 1, none⟩ = some (.string S2) := by rw [<- hS2]; exact b1
     obtain ⟨z1, hz1⟩ : ∃ z, S1.size = z := ⟨_, rfl⟩
     obtain ⟨z2, hz2⟩ : ∃ z, S2.size = z := ⟨_, rfl⟩
     obtain ⟨t1, ht1⟩ : ∃ t1, zcx (x.ats.take j) = t1 := ⟨_, rfl⟩
     rw [ht1] at hsj ⊢
     have HSJ : Hid (zcx (x.ats.take (j + 1)) = t1 + (1 + z1 + z2)) := by
      have : zcx (x.ats.take (j + 1)) = t1 + (1 + z1 + z2) := by omega
      exact (show Hid _ from this)
     have hbb : B + t1 + (1 + z1 + z2) <= 2000000 := by have := HSJ.out; omega
     have HKj : Hid (Kept (fun k => k < w.heap.size) W5 wr) := hKj
     clear hS1 hS2 b0 b1 a0 a1 hy haa hKj htj hsj hle ht1 q1 q2
     go_upto_region 9 with fail
     go_quiet (fail)
     go_wp2
     go_roundg (n6 - (j + 1))
     case rel => exact ⟨j + 1, rfl, by omega, by go_num, by rw [HSJ.out]; congr 1; omega, HKj.out.drewN _⟩
     case measure => omega
    ·have hjn : n6 = j := by omega
     subst hjn
     have hall : x.ats.take n6 = x.ats := List.take_of_length_le (by rw [HN6.out]; exact Nat.le_refl _)
     rw [hall]
     have hbs := HBS.out
     obtain ⟨t2, ht2⟩ : ∃ t2, B + zcx x.ats = t2 := ⟨_, rfl⟩
     rw [ht2] at hbs ⊢
     have HT2 : Hid (zdg (l.take (k + 1)) = t2) := hbs
     have HKj : Hid (Kept (fun k => k < w.heap.size) w wr) := HK5.out.trans hKj
     clear hKj hall hbs ht2
     go_wp2
     go_roundg (n - (k + 1))
     case rel => exact ⟨k + 1, rfl, by omega, by go_num, by rw [HT2.out], HKj.out⟩
     case measure => omega
  ·have hkn : n = k := by omega
   subst hkn
   have hall : l.take n = l := List.take_of_length_le (by rw [HL.out]; exact Nat.le_refl _)
   rw [hall]
   have HK : Hid (Kept (fun k => k < w.heap.size) w wr) := hK
   clear hK hall
   go_wp2
   go_ret
   exact ⟨rfl, HK.out⟩
end
section
open Go.RowKit
section
variable {M : Dm} {R G : Nat -> List Nat} {rk : Nat -> Nat}
theorem Good.kid (h : Good M R rk) {i k : Nat} (hi : i < M.n) (hk : k ∈ R i) : k < M.n /\ (M.pl k).up = (i : Int) /\ rk i < rk k := by
 have hl := h.wf.lt i hi k hk
 have hu := h.wf.up hi hk
 refine ⟨hl, hu, ?_⟩
 have hp : zbl M k = (i : Int) := by unfold zbl; rw [if_neg (by omega)]; exact hu
 rcases h.acy k hl with e | ⟨m, _, e, hr⟩
 ·omega
 ·have : m = i := by omega
  exact this ▸ hr
theorem Inv.shadow (h : Inv M R G rk) {i s : Nat} (hi : i < M.n) (hs : (M.nd i).shadow = (s : Int)) : s < M.n /\ (M.nd s).kind = 5 /\ (M.nd s).host = (i : Int) /\ (M.pl s).up = -1 /\ rk i < rk s /\ (M.nd i).kind = 1 := by
 rcases h.core.shad i hi with e | ⟨k, hk, e, h1, h2, h3⟩
 ·omega
 ·have : k = s := by omega
  subst this
  have hup : (M.pl k).up = -1 := by
   rcases h.core.host k hk with ⟨e', _⟩ | ⟨u, _, _, hu, _⟩
   ·omega
   ·exact hu
  refine ⟨hk, h2, h3, hup, ?_, h1⟩
  rcases h.good.acy k hk with e' | ⟨m, _, e', hr⟩
  ·unfold zbl at e'; rw [if_pos hup] at e'; omega
  ·unfold zbl at e'
   rw [if_pos hup] at e'
   have : m = i := by omega
   exact this ▸ hr
end
end
end Go.Proofs.YtfeinppedejlpaaGreat
