/-
  The document's own Outer: a node as it is written.
-/
import Derived.Test.YtikaheenjhdpmaaGreatVRb
import Derived.Lib.QuietBelow
import Derived.BigQuiet
namespace Go.Proofs.YtikaheenjhdpmaaGreat
open Go.RowKit Go.Sort
set_option linter.unusedVariables false
set_option maxRecDepth 100000
set_option maxHeartbeats 8000000
def zu4 : ByteArray := ⟨#[115, 99, 114, 105, 112, 116, 32, 115, 116, 121, 108, 101, 32, 120, 109, 112, 32, 105, 102, 114, 97, 109, 101, 32, 110, 111, 101, 109, 98, 101, 100, 32, 110, 111, 102, 114, 97, 109, 101, 115]⟩
theorem zm8 (l : List UInt8) : zez zu4.data.toList l = zh0 l := by
 have e : (zed [] zu4.data.toList) = zuh := by decide +kernel
 unfold zez zh0
 rw [e]
 by_cases c : l = []
 ·subst c; decide
 ·have h1 : (l != []) = true := by simpa using c
  rw [h1, Bool.and_true]
  congr 1
  funext x
  rw [Bool.eq_iff_iff, beq_iff_eq, beq_iff_eq]
  exact eq_comm
theorem zj7 (s : ByteArray) (K : Nat -> Prop) (w : World) :
  Calls Tryz.prog 54 #[.string s] w fun e w' => e = .returned (.bool (zh0 s.toList)) /\ Kept K w w' := by
 have h1 := fun X => zi1 zu4 s K X (by decide +kernel)
 rw [zm8] at h1
 go_enter Tryz.func54, Tryz.ntmps54
 go_wp2_with fail
 refine (h1 _).mono ?_
 rintro e w1 ⟨rfl, hk1⟩
 go_wp2
 go_ret
 exact ⟨rfl, hk1⟩
abbrev rnC (kz : Int) (NM DT : ByteArray) (aa : Option Addr) (an ac : Nat) (up : Int) (ka : Option Addr) (kn kc : Nat) (sh ho co : Int) (fl : Fg) : List Value :=
 [.int .u8 kz, .string NM, .string DT, .slice aa an ac, .int .i64 up, .slice ka kn kc, .int .i64 sh, .int .i64 ho, .int .i64 co, .bool fl.a, .bool fl.b, .bool fl.c, .bool fl.d, .bool fl.e]
theorem zux (M : Dm) (R : Nat -> List Nat) (i : Nat) (aa : Option Addr) (ac : Nat) (ka : Option Addr) (kc : Nat) : zaz M R i aa ac ka kc = rnC ((M.nd i).kind : Int) ⟨(M.nd i).name.toArray⟩ ⟨(M.nd i).data.toArray⟩ aa (M.nd i).attrs.length ac (M.pl i).up ka (R i).length kc (M.nd i).shadow (M.nd i).host (M.nd i).content (M.nd i).fl := rfl
theorem RAt.range {M : Dm} {R : Nat -> List Nat} {r g nc i : Nat} {aa : Option Addr} {ac : Nat} {ka : Option Addr} {kc N : Nat} {Y : World} (h : RAt M R r g nc i aa ac ka kc N Y) : Y.rangeAt g (i * 14) (rnC ((M.nd i).kind : Int) ⟨(M.nd i).name.toArray⟩ ⟨(M.nd i).data.toArray⟩ aa (M.nd i).attrs.length ac (M.pl i).up ka (R i).length kc (M.nd i).shadow (M.nd i).host (M.nd i).content (M.nd i).fl) := fun j v hv => h.c j v (by rw [zux]; exact hv)
theorem zc5 : (Tryz.prog.info? 46).map (·.size) = some 14 := by kernel_rfl
def Zq1 (w0 : World) (r i : Nat) (ov : Value) (T : List UInt8) : Prop := ∀ Y, Kept (fun k => k < w0.heap.size) w0 Y -> Calls Tryz.prog 22 #[.pointer (some ⟨r, 0, none⟩), .int .i64 (i : Int), ov] Y fun e w' => e = .returned (.string ⟨T.toArray⟩) /\ Kept (fun k => k < Y.heap.size) Y w'
def Zki (w0 : World) (r i : Nat) (ov : Value) (T : List UInt8) : Prop := ∀ Y, Kept (fun k => k < w0.heap.size) w0 Y -> Calls Tryz.prog 19 #[.pointer (some ⟨r, 0, none⟩), .int .i64 (i : Int), ov] Y fun e w' => e = .returned (.string ⟨T.toArray⟩) /\ Kept (fun k => k < Y.heap.size) Y w'
section
variable {w0 : World} {r : Nat} {M : Dm} {R : Nat -> List Nat} {g nc : Nat} {sr : Bool} {la : Option Addr} {rn rc i : Nat} {T : List UInt8}
theorem zgf (hE : RE w0 r M R g nc) (hn : M.n <= 100000) (hi : i < M.n) (hk : (M.nd i).kind = 3) (hd : (M.nd i).data.length < 1000000) : Zki w0 r i (.agg #[.bool sr, .slice la rn rc]) ([60, 33, 45, 45] ++ ((M.nd i).data ++ [45, 45, 62])) := by
 intro X hX
 obtain ⟨aa, ac, ka, kc, hA⟩ := hE i hi
 obtain ⟨W, N, hW, hN, hb, hkW, hz⟩ := zae X #[.bool sr, .slice la rn rc] 41
 have hwW : Kept (fun k => k < w0.heap.size) w0 W := hX.trans (hkW.mono fun k h => ltl h hX.size)
 have hat := hA W hwW
 have c1 := hat.c1
 have hr := hat.range
 have hats := hat.ats
 obtain ⟨kz, hkd⟩ : ∃ k : Int, ((M.nd i).kind : Int) = k := ⟨_, rfl⟩
 obtain ⟨NM, hNM⟩ : ∃ k : ByteArray, ⟨(M.nd i).name.toArray⟩ = k := ⟨_, rfl⟩
 obtain ⟨DT, hDT⟩ : ∃ k : ByteArray, ⟨(M.nd i).data.toArray⟩ = k := ⟨_, rfl⟩
 obtain ⟨an, han⟩ : ∃ k, (M.nd i).attrs.length = k := ⟨_, rfl⟩
 obtain ⟨up, hup⟩ : ∃ k, (M.pl i).up = k := ⟨_, rfl⟩
 obtain ⟨kn, hkn⟩ : ∃ k, (R i).length = k := ⟨_, rfl⟩
 obtain ⟨sh, hsh⟩ : ∃ k, (M.nd i).shadow = k := ⟨_, rfl⟩
 obtain ⟨ho, hho⟩ : ∃ k, (M.nd i).host = k := ⟨_, rfl⟩
 obtain ⟨co, hco⟩ : ∃ k, (M.nd i).content = k := ⟨_, rfl⟩
 obtain ⟨fl, hfl⟩ : ∃ k, (M.nd i).fl = k := ⟨_, rfl⟩
 rw [hkd, hNM, hDT, han, hup, hkn, hsh, hho, hco, hfl] at hr
 obtain ⟨m, hm⟩ : ∃ m, M.n = m := ⟨_, rfl⟩
 rw [hm] at c1
 have him : i < m := by rw [<- hm]; exact hi
 have hm5 : m <= 100000 := by rw [<- hm]; exact hn
 obtain ⟨V, N7, hV, hN7, hbV, hkV, hz7⟩ := zae W (rnC kz NM DT aa an ac up ka kn kc sh ho co fl).toArray 46
 have hwV : Kept (fun k => k < w0.heap.size) w0 V := hwW.trans (hkV.mono fun k h => ltl h hwW.size)
 have hbO : V.heap[N]? = some (.cells #[.bool sr, .slice la rn rc] 41 (0, 0)) := (hkV.block N (zac hb)).trans hb
 have HW : Hid (X.alloc (.cells #[.bool sr, .slice la rn rc] 41) = W) := hW
 have HN : Hid (X.heap.size = N) := hN
 have HN7 : Hid (W.heap.size = N7) := hN7
 have HV : Hid (W.alloc (.cells #[.int .u8 kz, .string NM, .string DT, .slice aa an ac, .int .i64 up, .slice ka kn kc, .int .i64 sh, .int .i64 ho, .int .i64 co, .bool fl.a, .bool fl.b, .bool fl.c, .bool fl.d, .bool fl.e] 46) = V) := hV
 have HKV : Hid (Kept (fun k => k < X.heap.size) X V) := hkW.trans (hkV.mono fun k h => ltl h hkW.size)
 have z0 : V.cell? ⟨N7, 0, none⟩ = some (.int .u8 kz) := by rw [zaa hbV]; rfl
 have z2 : V.cell? ⟨N7, 2, none⟩ = some (.string DT) := by rw [zaa hbV]; rfl
 have hDs : DT.size < 1000000 := by rw [<- hDT]; show Array.size _ < _; rw [List.size_toArray]; exact hd
 have HE : Hid ((⟨([60, 33, 45, 45] ++ ((M.nd i).data ++ [45, 45, 62])).toArray⟩ : ByteArray) = (⟨#[60, 33, 45, 45]⟩ ++ DT) ++ ⟨#[45, 45, 62]⟩) := by
  rw [<- hDT]
  refine Eq.symm ?_
  refine (congrArg (· ++ (⟨#[45, 45, 62]⟩ : ByteArray)) (zcd [60, 33, 45, 45] ⟨(M.nd i).data.toArray⟩)).trans ?_
  rw [zcd]
  show (⟨([60, 33, 45, 45] ++ (M.nd i).data ++ [45, 45, 62]).toArray⟩ : ByteArray) = _
  rw [List.append_assoc]
 obtain ⟨res, hres⟩ : ∃ b, (⟨([60, 33, 45, 45] ++ ((M.nd i).data ++ [45, 45, 62])).toArray⟩ : ByteArray) = b := ⟨_, rfl⟩
 rw [hres] at HE ⊢
 obtain rfl : kz = 3 := by rw [<- hkd, hk]; rfl
 clear hres hk
 clear hE hX hA hW hN hb hkW hz hwW hat hV hN7 hkV hz7 hwV hbV hbO hats hNM hDT han hup hkn hsh hho hco hfl hm hkd hi hn
 go_enter Tryz.func19, Tryz.ntmps19
 go_upto_region 1 with fail
 rw [HW.out, HN.out]
 clear HW HN
 have i1 : ((i : Int) < 0) = False := by rw [eq_iff_iff]; exact ⟨fun h => by omega, False.elim⟩
 have i2 : decide ((i : Int) < 0) = false := decide_eq_false (by omega)
 have i3 : decide ((m : Int) <= (i : Int)) = false := decide_eq_false (by omega)
 go_upto_region 3 with fail
 go_upto_region 4 with (refine wpList_load_mid rfl 46 _ rfl g (i * 14) rfl _ _ hr Tryz.underlying46 rfl zc5 ?_)
 rw [HN7.out, HV.out]
 clear HV HN7 hr c1 i1 i2 i3
 go_wp2
 go_ret
 exact ⟨by rw [HE.out]; rfl, HKV.out⟩
theorem zgk (hE : RE w0 r M R g nc) (hn : M.n <= 100000) (hi : i < M.n) (hk : (M.nd i).kind = 6) (hd : (M.nd i).name.length < 1000000) : Zki w0 r i (.agg #[.bool sr, .slice la rn rc]) ([60, 33, 68, 79, 67, 84, 89, 80, 69, 32] ++ ((M.nd i).name ++ [62])) := by
 intro X hX
 obtain ⟨aa, ac, ka, kc, hA⟩ := hE i hi
 obtain ⟨W, N, hW, hN, hb, hkW, hz⟩ := zae X #[.bool sr, .slice la rn rc] 41
 have hwW : Kept (fun k => k < w0.heap.size) w0 W := hX.trans (hkW.mono fun k h => ltl h hX.size)
 have hat := hA W hwW
 have c1 := hat.c1
 have hr := hat.range
 have hats := hat.ats
 obtain ⟨kz, hkd⟩ : ∃ k : Int, ((M.nd i).kind : Int) = k := ⟨_, rfl⟩
 obtain ⟨NM, hNM⟩ : ∃ k : ByteArray, ⟨(M.nd i).name.toArray⟩ = k := ⟨_, rfl⟩
 obtain ⟨DT, hDT⟩ : ∃ k : ByteArray, ⟨(M.nd i).data.toArray⟩ = k := ⟨_, rfl⟩
 obtain ⟨an, han⟩ : ∃ k, (M.nd i).attrs.length = k := ⟨_, rfl⟩
 obtain ⟨up, hup⟩ : ∃ k, (M.pl i).up = k := ⟨_, rfl⟩
 obtain ⟨kn, hkn⟩ : ∃ k, (R i).length = k := ⟨_, rfl⟩
 obtain ⟨sh, hsh⟩ : ∃ k, (M.nd i).shadow = k := ⟨_, rfl⟩
 obtain ⟨ho, hho⟩ : ∃ k, (M.nd i).host = k := ⟨_, rfl⟩
 obtain ⟨co, hco⟩ : ∃ k, (M.nd i).content = k := ⟨_, rfl⟩
 obtain ⟨fl, hfl⟩ : ∃ k, (M.nd i).fl = k := ⟨_, rfl⟩
 rw [hkd, hNM, hDT, han, hup, hkn, hsh, hho, hco, hfl] at hr
 obtain ⟨m, hm⟩ : ∃ m, M.n = m := ⟨_, rfl⟩
 rw [hm] at c1
 have him : i < m := by rw [<- hm]; exact hi
 have hm5 : m <= 100000 := by rw [<- hm]; exact hn
 obtain ⟨V, N7, hV, hN7, hbV, hkV, hz7⟩ := zae W (rnC kz NM DT aa an ac up ka kn kc sh ho co fl).toArray 46
 have hwV : Kept (fun k => k < w0.heap.size) w0 V := hwW.trans (hkV.mono fun k h => ltl h hwW.size)
 have hbO : V.heap[N]? = some (.cells #[.bool sr, .slice la rn rc] 41 (0, 0)) := (hkV.block N (zac hb)).trans hb
 have HW : Hid (X.alloc (.cells #[.bool sr, .slice la rn rc] 41) = W) := hW
 have HN : Hid (X.heap.size = N) := hN
 have HN7 : Hid (W.heap.size = N7) := hN7
 have HV : Hid (W.alloc (.cells #[.int .u8 kz, .string NM, .string DT, .slice aa an ac, .int .i64 up, .slice ka kn kc, .int .i64 sh, .int .i64 ho, .int .i64 co, .bool fl.a, .bool fl.b, .bool fl.c, .bool fl.d, .bool fl.e] 46) = V) := hV
 have HKV : Hid (Kept (fun k => k < X.heap.size) X V) := hkW.trans (hkV.mono fun k h => ltl h hkW.size)
 have z0 : V.cell? ⟨N7, 0, none⟩ = some (.int .u8 kz) := by rw [zaa hbV]; rfl
 have z1 : V.cell? ⟨N7, 1, none⟩ = some (.string NM) := by rw [zaa hbV]; rfl
 have hNs : NM.size < 1000000 := by rw [<- hNM]; show Array.size _ < _; rw [List.size_toArray]; exact hd
 have HE : Hid ((⟨([60, 33, 68, 79, 67, 84, 89, 80, 69, 32] ++ ((M.nd i).name ++ [62])).toArray⟩ : ByteArray) = (⟨#[60, 33, 68, 79, 67, 84, 89, 80, 69, 32]⟩ ++ NM) ++ ⟨#[62]⟩) := by
  rw [<- hNM]
  refine Eq.symm ?_
  refine (congrArg (· ++ (⟨#[62]⟩ : ByteArray)) (zcd [60, 33, 68, 79, 67, 84, 89, 80, 69, 32] ⟨(M.nd i).name.toArray⟩)).trans ?_
  rw [zcd]
  show (⟨([60, 33, 68, 79, 67, 84, 89, 80, 69, 32] ++ (M.nd i).name ++ [62]).toArray⟩ : ByteArray) = _
  rw [List.append_assoc]
 obtain ⟨res, hres⟩ : ∃ b, (⟨([60, 33, 68, 79, 67, 84, 89, 80, 69, 32] ++ ((M.nd i).name ++ [62])).toArray⟩ : ByteArray) = b := ⟨_, rfl⟩
 rw [hres] at HE ⊢
 obtain rfl : kz = 6 := by rw [<- hkd, hk]; rfl
 clear hres hk
 clear hE hX hA hW hN hb hkW hz hwW hat hV hN7 hkV hz7 hwV hbV hbO hats hNM hDT han hup hkn hsh hho hco hfl hm hkd hi hn
 go_enter Tryz.func19, Tryz.ntmps19
 go_upto_region 1 with fail
 rw [HW.out, HN.out]
 clear HW HN
 have i1 : ((i : Int) < 0) = False := by rw [eq_iff_iff]; exact ⟨fun h => by omega, False.elim⟩
 have i2 : decide ((i : Int) < 0) = false := decide_eq_false (by omega)
 have i3 : decide ((m : Int) <= (i : Int)) = false := decide_eq_false (by omega)
 go_upto_region 3 with fail
 go_upto_region 4 with (refine wpList_load_mid rfl 46 _ rfl g (i * 14) rfl _ _ hr Tryz.underlying46 rfl zc5 ?_)
 rw [HN7.out, HV.out]
 clear HV HN7 hr c1 i1 i2 i3
 go_wp2
 go_ret
 exact ⟨by rw [HE.out]; rfl, HKV.out⟩
theorem zjg (hE : RE w0 r M R g nc) (hn : M.n <= 100000) (hi : i < M.n) (hk : (M.nd i).kind = 4) (hI : Zq1 w0 r i (.agg #[.bool sr, .slice la rn rc]) T) : Zki w0 r i (.agg #[.bool sr, .slice la rn rc]) (T) := by
 intro X hX
 obtain ⟨aa, ac, ka, kc, hA⟩ := hE i hi
 obtain ⟨W, N, hW, hN, hb, hkW, hz⟩ := zae X #[.bool sr, .slice la rn rc] 41
 have hwW : Kept (fun k => k < w0.heap.size) w0 W := hX.trans (hkW.mono fun k h => ltl h hX.size)
 have hat := hA W hwW
 have c1 := hat.c1
 have hr := hat.range
 have hats := hat.ats
 obtain ⟨kz, hkd⟩ : ∃ k : Int, ((M.nd i).kind : Int) = k := ⟨_, rfl⟩
 obtain ⟨NM, hNM⟩ : ∃ k : ByteArray, ⟨(M.nd i).name.toArray⟩ = k := ⟨_, rfl⟩
 obtain ⟨DT, hDT⟩ : ∃ k : ByteArray, ⟨(M.nd i).data.toArray⟩ = k := ⟨_, rfl⟩
 obtain ⟨an, han⟩ : ∃ k, (M.nd i).attrs.length = k := ⟨_, rfl⟩
 obtain ⟨up, hup⟩ : ∃ k, (M.pl i).up = k := ⟨_, rfl⟩
 obtain ⟨kn, hkn⟩ : ∃ k, (R i).length = k := ⟨_, rfl⟩
 obtain ⟨sh, hsh⟩ : ∃ k, (M.nd i).shadow = k := ⟨_, rfl⟩
 obtain ⟨ho, hho⟩ : ∃ k, (M.nd i).host = k := ⟨_, rfl⟩
 obtain ⟨co, hco⟩ : ∃ k, (M.nd i).content = k := ⟨_, rfl⟩
 obtain ⟨fl, hfl⟩ : ∃ k, (M.nd i).fl = k := ⟨_, rfl⟩
 rw [hkd, hNM, hDT, han, hup, hkn, hsh, hho, hco, hfl] at hr
 obtain ⟨m, hm⟩ : ∃ m, M.n = m := ⟨_, rfl⟩
 rw [hm] at c1
 have him : i < m := by rw [<- hm]; exact hi
 have hm5 : m <= 100000 := by rw [<- hm]; exact hn
 obtain ⟨V, N7, hV, hN7, hbV, hkV, hz7⟩ := zae W (rnC kz NM DT aa an ac up ka kn kc sh ho co fl).toArray 46
 have hwV : Kept (fun k => k < w0.heap.size) w0 V := hwW.trans (hkV.mono fun k h => ltl h hwW.size)
 have hbO : V.heap[N]? = some (.cells #[.bool sr, .slice la rn rc] 41 (0, 0)) := (hkV.block N (zac hb)).trans hb
 have HW : Hid (X.alloc (.cells #[.bool sr, .slice la rn rc] 41) = W) := hW
 have HN : Hid (X.heap.size = N) := hN
 have HN7 : Hid (W.heap.size = N7) := hN7
 have HV : Hid (W.alloc (.cells #[.int .u8 kz, .string NM, .string DT, .slice aa an ac, .int .i64 up, .slice ka kn kc, .int .i64 sh, .int .i64 ho, .int .i64 co, .bool fl.a, .bool fl.b, .bool fl.c, .bool fl.d, .bool fl.e] 46) = V) := hV
 have HKV : Hid (Kept (fun k => k < X.heap.size) X V) := hkW.trans (hkV.mono fun k h => ltl h hkW.size)
 have z0 : V.cell? ⟨N7, 0, none⟩ = some (.int .u8 kz) := by rw [zaa hbV]; rfl
 have hin := hI V hwV
 obtain ⟨TB, hTB⟩ : ∃ b : ByteArray, ⟨T.toArray⟩ = b := ⟨_, rfl⟩
 rw [hTB] at hin ⊢
 obtain rfl : kz = 4 := by rw [<- hkd, hk]; rfl
 clear hk hI hTB
 clear hE hX hA hW hN hb hkW hz hwW hat hV hN7 hkV hz7 hwV hbV hats hNM hDT han hup hkn hsh hho hco hfl hm hkd hi hn
 go_enter Tryz.func19, Tryz.ntmps19
 go_upto_region 1 with fail
 rw [HW.out, HN.out]
 clear HW HN
 have i1 : ((i : Int) < 0) = False := by rw [eq_iff_iff]; exact ⟨fun h => by omega, False.elim⟩
 have i2 : decide ((i : Int) < 0) = false := decide_eq_false (by omega)
 have i3 : decide ((m : Int) <= (i : Int)) = false := decide_eq_false (by omega)
 go_upto_region 3 with fail
 go_upto_region 4 with (refine wpList_load_mid rfl 46 _ rfl g (i * 14) rfl _ _ hr Tryz.underlying46 rfl zc5 ?_)
 rw [HN7.out, HV.out]
 clear HV HN7 hr c1 i1 i2 i3
 go_wp2_with (refine wpList_load_row rfl 41 _ rfl N rfl 41 #[.bool sr, .slice la rn rc] (0, 0) _ hbO Tryz.underlying41 rfl (zmt _ rfl) ?_)
 refine hin.mono ?_
 rintro e w9 ⟨rfl, hK9⟩
 have HK9 : Hid (Kept (fun k => k < X.heap.size) X w9) := HKV.out.trans (hK9.mono fun k h => ltl h HKV.out.size)
 clear hin hK9 hbO
 go_wp2
 go_ret
 exact ⟨rfl, HK9.out⟩
theorem zi8 (hE : RE w0 r M R g nc) (hn : M.n <= 100000) (hi : i < M.n) (hk : (M.nd i).kind = 5) (hI : Zq1 w0 r i (.agg #[.bool sr, .slice la rn rc]) T) : Zki w0 r i (.agg #[.bool sr, .slice la rn rc]) (T) := by
 intro X hX
 obtain ⟨aa, ac, ka, kc, hA⟩ := hE i hi
 obtain ⟨W, N, hW, hN, hb, hkW, hz⟩ := zae X #[.bool sr, .slice la rn rc] 41
 have hwW : Kept (fun k => k < w0.heap.size) w0 W := hX.trans (hkW.mono fun k h => ltl h hX.size)
 have hat := hA W hwW
 have c1 := hat.c1
 have hr := hat.range
 have hats := hat.ats
 obtain ⟨kz, hkd⟩ : ∃ k : Int, ((M.nd i).kind : Int) = k := ⟨_, rfl⟩
 obtain ⟨NM, hNM⟩ : ∃ k : ByteArray, ⟨(M.nd i).name.toArray⟩ = k := ⟨_, rfl⟩
 obtain ⟨DT, hDT⟩ : ∃ k : ByteArray, ⟨(M.nd i).data.toArray⟩ = k := ⟨_, rfl⟩
 obtain ⟨an, han⟩ : ∃ k, (M.nd i).attrs.length = k := ⟨_, rfl⟩
 obtain ⟨up, hup⟩ : ∃ k, (M.pl i).up = k := ⟨_, rfl⟩
 obtain ⟨kn, hkn⟩ : ∃ k, (R i).length = k := ⟨_, rfl⟩
 obtain ⟨sh, hsh⟩ : ∃ k, (M.nd i).shadow = k := ⟨_, rfl⟩
 obtain ⟨ho, hho⟩ : ∃ k, (M.nd i).host = k := ⟨_, rfl⟩
 obtain ⟨co, hco⟩ : ∃ k, (M.nd i).content = k := ⟨_, rfl⟩
 obtain ⟨fl, hfl⟩ : ∃ k, (M.nd i).fl = k := ⟨_, rfl⟩
 rw [hkd, hNM, hDT, han, hup, hkn, hsh, hho, hco, hfl] at hr
 obtain ⟨m, hm⟩ : ∃ m, M.n = m := ⟨_, rfl⟩
 rw [hm] at c1
 have him : i < m := by rw [<- hm]; exact hi
 have hm5 : m <= 100000 := by rw [<- hm]; exact hn
 obtain ⟨V, N7, hV, hN7, hbV, hkV, hz7⟩ := zae W (rnC kz NM DT aa an ac up ka kn kc sh ho co fl).toArray 46
 have hwV : Kept (fun k => k < w0.heap.size) w0 V := hwW.trans (hkV.mono fun k h => ltl h hwW.size)
 have hbO : V.heap[N]? = some (.cells #[.bool sr, .slice la rn rc] 41 (0, 0)) := (hkV.block N (zac hb)).trans hb
 have HW : Hid (X.alloc (.cells #[.bool sr, .slice la rn rc] 41) = W) := hW
 have HN : Hid (X.heap.size = N) := hN
 have HN7 : Hid (W.heap.size = N7) := hN7
 have HV : Hid (W.alloc (.cells #[.int .u8 kz, .string NM, .string DT, .slice aa an ac, .int .i64 up, .slice ka kn kc, .int .i64 sh, .int .i64 ho, .int .i64 co, .bool fl.a, .bool fl.b, .bool fl.c, .bool fl.d, .bool fl.e] 46) = V) := hV
 have HKV : Hid (Kept (fun k => k < X.heap.size) X V) := hkW.trans (hkV.mono fun k h => ltl h hkW.size)
 have z0 : V.cell? ⟨N7, 0, none⟩ = some (.int .u8 kz) := by rw [zaa hbV]; rfl
 have hin := hI V hwV
 obtain ⟨TB, hTB⟩ : ∃ b : ByteArray, ⟨T.toArray⟩ = b := ⟨_, rfl⟩
 rw [hTB] at hin ⊢
 obtain rfl : kz = 5 := by rw [<- hkd, hk]; rfl
 clear hk hI hTB
 clear hE hX hA hW hN hb hkW hz hwW hat hV hN7 hkV hz7 hwV hbV hats hNM hDT han hup hkn hsh hho hco hfl hm hkd hi hn
 go_enter Tryz.func19, Tryz.ntmps19
 go_upto_region 1 with fail
 rw [HW.out, HN.out]
 clear HW HN
 have i1 : ((i : Int) < 0) = False := by rw [eq_iff_iff]; exact ⟨fun h => by omega, False.elim⟩
 have i2 : decide ((i : Int) < 0) = false := decide_eq_false (by omega)
 have i3 : decide ((m : Int) <= (i : Int)) = false := decide_eq_false (by omega)
 go_upto_region 3 with fail
 go_upto_region 4 with (refine wpList_load_mid rfl 46 _ rfl g (i * 14) rfl _ _ hr Tryz.underlying46 rfl zc5 ?_)
 rw [HN7.out, HV.out]
 clear HV HN7 hr c1 i1 i2 i3
 go_wp2_with (refine wpList_load_row rfl 41 _ rfl N rfl 41 #[.bool sr, .slice la rn rc] (0, 0) _ hbO Tryz.underlying41 rfl (zmt _ rfl) ?_)
 refine hin.mono ?_
 rintro e w9 ⟨rfl, hK9⟩
 have HK9 : Hid (Kept (fun k => k < X.heap.size) X w9) := HKV.out.trans (hK9.mono fun k h => ltl h HKV.out.size)
 clear hin hK9 hbO
 go_wp2
 go_ret
 exact ⟨rfl, HK9.out⟩
end
end Go.Proofs.YtikaheenjhdpmaaGreat
