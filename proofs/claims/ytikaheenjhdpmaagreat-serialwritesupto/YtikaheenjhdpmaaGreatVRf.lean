/-
  The document's own Outer at an element.
-/
import Derived.Test.YtikaheenjhdpmaaGreatVRc
namespace Go.Proofs.YtikaheenjhdpmaaGreat
open Go.RowKit Go.Sort
set_option linter.unusedVariables false
set_option maxRecDepth 100000
set_option maxHeartbeats 8000000
section
variable {w0 : World} {r : Nat} {M : Dm} {R : Nat -> List Nat} {g nc : Nat} {sr : Bool} {la : Option Addr} {rn rc i : Nat} {T : List UInt8}
def zfj (nm : List UInt8) (l : List Atr) (j : Nat) : ByteArray := ⟨(([60] ++ nm) ++ zcv (l.take j)).toArray⟩
theorem zhs {nm : List UInt8} {l : List Atr} {j : Nat} (h : j < l.length) : ((((zfj nm l j ++ ⟨#[32]⟩) ++ ⟨l[j].name.toArray⟩) ++ ⟨#[61, 34]⟩) ++ ⟨(esc true l[j].value).toArray⟩) ++ ⟨#[34]⟩ = zfj nm l (j + 1) := by
 unfold zfj
 rw [zix l j h]
 unfold zpo
 simp only [zcd]
 congr 2
 simp only [List.append_assoc]
theorem zht {nm : List UInt8} {l : List Atr} {j : Nat} (hn : nm.length <= 60) (h50 : l.length <= 50) (ha : ∀ a ∈ l, a.name.length <= 60 /\ a.value.length <= 2000) : (zfj nm l j).size <= 1000000 := by
 have h1 := zhe (l.take j) fun a h => ha a (List.mem_of_mem_take h)
 have h2 : (l.take j).length <= 50 := by rw [List.length_take]; omega
 show Array.size _ <= _
 rw [List.size_toArray]
 simp only [List.length_append, List.length_cons, List.length_nil]
 omega
theorem zjv (hE : RE w0 r M R g nc) (hn : M.n <= 100000) (hi : i < M.n) (hk : (M.nd i).kind = 1) (hnl : (M.nd i).name.length <= 60) (h50 : (M.nd i).attrs.length <= 50) (hal : ∀ a ∈ (M.nd i).attrs, a.name.length <= 60 /\ a.value.length <= 2000) (hv : za7 (M.nd i).name = true) : Zki w0 r i (.agg #[.bool sr, .slice la rn rc]) (zdi (M.nd i).name (M.nd i).attrs) := by
 intro X hX
 obtain ⟨aa, ac, ka, kc, hA⟩ := hE i hi
 obtain ⟨W, N, hW, hN, hb, hkW, hz⟩ := zae X #[.bool sr, .slice la rn rc] 41
 have hwW : Kept (fun k => k < w0.heap.size) w0 W := hX.trans (hkW.mono fun k h => ltl h hX.size)
 have hat := hA W hwW
 have c1 := hat.c1
 have hr := hat.range
 have hats := hat.ats
 obtain ⟨kz, hkd⟩ : ∃ k : Int, ((M.nd i).kind : Int) = k := ⟨_, rfl⟩
 obtain ⟨NM, hNM⟩ : ∃ k : ByteArray, ⟨(M.nd i).name.toArray⟩ = k := ⟨_, rfl⟩
 obtain ⟨DT, hDT⟩ : ∃ k : ByteArray, ⟨(M.nd i).data.toArray⟩ = k := ⟨_, rfl⟩
 obtain ⟨an, han⟩ : ∃ k, (M.nd i).attrs.length = k := ⟨_, rfl⟩
 obtain ⟨up, hup⟩ : ∃ k, (M.pl i).up = k := ⟨_, rfl⟩
 obtain ⟨kn, hkn⟩ : ∃ k, (R i).length = k := ⟨_, rfl⟩
 obtain ⟨sh, hsh⟩ : ∃ k, (M.nd i).shadow = k := ⟨_, rfl⟩
 obtain ⟨ho, hho⟩ : ∃ k, (M.nd i).host = k := ⟨_, rfl⟩
 obtain ⟨co, hco⟩ : ∃ k, (M.nd i).content = k := ⟨_, rfl⟩
 obtain ⟨fl, hfl⟩ : ∃ k, (M.nd i).fl = k := ⟨_, rfl⟩
 rw [hkd, hNM, hDT, han, hup, hkn, hsh, hho, hco, hfl] at hr
 obtain ⟨m, hm⟩ : ∃ m, M.n = m := ⟨_, rfl⟩
 rw [hm] at c1
 have him : i < m := by rw [<- hm]; exact hi
 have hm5 : m <= 100000 := by rw [<- hm]; exact hn
 obtain ⟨V, N7, hV, hN7, hbV, hkV, hz7⟩ := zae W (rnC kz NM DT aa an ac up ka kn kc sh ho co fl).toArray 46
 have hwV : Kept (fun k => k < w0.heap.size) w0 V := hwW.trans (hkV.mono fun k h => ltl h hwW.size)
 have hbO : V.heap[N]? = some (.cells #[.bool sr, .slice la rn rc] 41 (0, 0)) := (hkV.block N (zac hb)).trans hb
 have HW : Hid (X.alloc (.cells #[.bool sr, .slice la rn rc] 41) = W) := hW
 have HN : Hid (X.heap.size = N) := hN
 have HN7 : Hid (W.heap.size = N7) := hN7
 have HV : Hid (W.alloc (.cells #[.int .u8 kz, .string NM, .string DT, .slice aa an ac, .int .i64 up, .slice ka kn kc, .int .i64 sh, .int .i64 ho, .int .i64 co, .bool fl.a, .bool fl.b, .bool fl.c, .bool fl.d, .bool fl.e] 46) = V) := hV
 have HKV : Hid (Kept (fun k => k < X.heap.size) X V) := hkW.trans (hkV.mono fun k h => ltl h hkW.size)
 have z0 : V.cell? ⟨N7, 0, none⟩ = some (.int .u8 kz) := by rw [zaa hbV]; rfl
 have z1 : ∀ n, (V.drewN n).cell? ⟨N7, 1, none⟩ = some (.string NM) := fun n => by show V.cell? _ = _; rw [zaa hbV]; rfl
 have z1' : V.cell? ⟨N7, 1, none⟩ = some (.string NM) := z1 0
 have z3 : ∀ n, (V.drewN n).cell? ⟨N7, 3, none⟩ = some (.slice aa an ac) := fun n => by show V.cell? _ = _; rw [zaa hbV]; rfl
 have hNs : NM.size <= 60 := by rw [<- hNM]; show Array.size _ <= _; rw [List.size_toArray]; exact hnl
 obtain ⟨l, hl⟩ : ∃ l, (M.nd i).attrs = l := ⟨_, rfl⟩
 obtain ⟨nm, hnm⟩ : ∃ l, (M.nd i).name = l := ⟨_, rfl⟩
 rw [hl] at han h50 hal hats
 rw [hnm] at hnl hNM
 have HA : Hid (Zah (fun q => q < w0.heap.size) V aa l) := hats.to (fun _ h => h) (fun q hq => hkV.block q (ltl hq hwW.size))
 have HSZ : Hid (∀ j, (zfj nm l j).size <= 1000000) := fun j => zht hnl h50 hal
 have HL : Hid (l.length = an) := han
 have HAL : Hid (∀ a ∈ l, a.name.length <= 60 /\ a.value.length <= 2000) := hal
 have HNM : Hid ((⟨nm.toArray⟩ : ByteArray) = NM) := hNM
 have han5 : an <= 50 := by rw [<- han]; exact h50
 have hs0 : (⟨#[60]⟩ : ByteArray) ++ NM = zfj nm l 0 := by
  rw [<- hNM]
  refine (zcd [60] ⟨nm.toArray⟩).trans ?_
  unfold zfj
  rw [List.take_zero]
  show _ = (⟨(([60] ++ nm) ++ []).toArray⟩ : ByteArray)
  rw [List.append_nil]
 have HS0 : Hid ((⟨#[60]⟩ : ByteArray) ++ NM = zfj nm l 0) := hs0
 have HVOID : Hid (za7 NM.toList = true) := by show za7 NM.toList = true; rw [<- hNM, ByteArray.toList_eq]; rw [hnm] at hv; exact hv
 have HNL : Hid ((M.nd i).name = nm /\ (M.nd i).attrs = l) := ⟨hnm, hl⟩
 clear hv
 obtain rfl : kz = 1 := by rw [<- hkd, hk]; rfl
 clear hk hnl h50 hal hl hnm hs0
 clear hE hX hA hW hN hb hkW hz hwW hat hV hN7 hkV hz7 hwV hbV hbO hats hNM hDT han hup hkn hsh hho hco hfl hm hkd hi hn
 go_enter Tryz.func19, Tryz.ntmps19
 go_upto_region 1 with fail
 rw [HW.out, HN.out]
 clear HW HN
 have i1 : ((i : Int) < 0) = False := by rw [eq_iff_iff]; exact ⟨fun h => by omega, False.elim⟩
 have i2 : decide ((i : Int) < 0) = false := decide_eq_false (by omega)
 have i3 : decide ((m : Int) <= (i : Int)) = false := decide_eq_false (by omega)
 go_upto_region 3 with fail
 go_upto_region 4 with (refine wpList_load_mid rfl 46 _ rfl g (i * 14) rfl _ _ hr Tryz.underlying46 rfl zc5 ?_)
 rw [HN7.out, HV.out]
 clear HV HN7 hr c1 i1 i2 i3
 go_upto_region 7 with fail
 rw [HS0.out]
 clear z1'
 go_upto_region 8 with fail
 go_loopg [8, 9] an (fun gm v8 v9 wr => ∃ (j m : Nat), gm = an - j /\ j <= an /\ v8 = .string (zfj nm l j) /\ v9 = .int .i64 (j : Int) /\ wr = V.drewN m)
 case atStart => exact ⟨0, 0, rfl, Nat.zero_le _, rfl, rfl, rfl⟩
 case round =>
  obtain ⟨j, mm, hg, hj, rfl, rfl, rfl⟩ := hrel
  by_cases hlt : j < an
  ·have hjl : j < l.length := by rw [HL.out]; exact hlt
   obtain ⟨ga, oa, haa, -, hc0, hc1⟩ := HA.out j hjl
   subst haa
   have hlj : (j : Int) < (an : Int) := by omega
   have hlj0 : (0 : Int) <= (j : Int) := by omega
   have hxl := HAL.out l[j] (List.getElem_mem hjl)
   have hnext := zhs (nm := nm) hjl
   have hb0 := HSZ.out j
   have hb1 := HSZ.out (j + 1)
   obtain ⟨AN, hAN⟩ : ∃ b : ByteArray, ⟨l[j].name.toArray⟩ = b := ⟨_, rfl⟩
   obtain ⟨AV, hAV⟩ : ∃ b : ByteArray, ⟨l[j].value.toArray⟩ = b := ⟨_, rfl⟩
   have hev : (esc true AV.data.toList).length <= 20000 := by
    have := zeg true l[j].value
    rw [<- hAV]
    show (esc true l[j].value).length <= _
    omega
   have hAVs : AV.size < 1000000 := by rw [<- hAV]; show Array.size _ < _; rw [List.size_toArray]; omega
   have hANs : AN.size <= 60 := by rw [<- hAN]; show Array.size _ <= _; rw [List.size_toArray]; exact hxl.1
   obtain ⟨EV, hEV⟩ : ∃ b : ByteArray, ⟨(esc true AV.data.toList).toArray⟩ = b := ⟨_, rfl⟩
   have hEVs : EV.size <= 20000 := by rw [<- hEV]; show Array.size _ <= _; rw [List.size_toArray]; exact hev
   have e1 : (⟨(esc true l[j].value).toArray⟩ : ByteArray) = EV := by rw [<- hEV, <- hAV]
   rw [hAN, e1] at hnext
   have hc0' : V.cell? ⟨ga, oa + j * 2, none⟩ = some (.string AN) := by rw [<- hAN]; exact hc0
   have hc1' : V.cell? ⟨ga, oa + j * 2 + 1, none⟩ = some (.string AV) := by rw [<- hAV]; exact hc1
   have hcall : ∀ Y, Calls Tryz.prog 52 #[.string AV] Y fun e w' => e = .returned (.string EV) /\ w' = Y := fun Y => by
    have := zgw AV Y hAVs
    rw [hEV] at this
    exact this
   have y0 : ∀ n, (V.drewN n).cell? ⟨ga, oa + j * 2, none⟩ = some (.string AN) := fun n => hc0'
   have y1 : ∀ n, (V.drewN n).cell? ⟨ga, oa + j * 2 + 1, none⟩ = some (.string AV) := fun n => hc1'
   obtain ⟨O, hO⟩ : ∃ b, zfj nm l j = b := ⟨_, rfl⟩
   rw [hO] at hnext hb0 ⊢
   have HNX : Hid (((((O ++ ⟨#[32]⟩) ++ AN) ++ ⟨#[61, 34]⟩) ++ EV) ++ ⟨#[34]⟩ = zfj nm l (j + 1)) := hnext
   clear hnext hc0 hc1 hc0' hc1' hxl hAN hAV hev hEV e1 hO hb1
   have q1 : ¬ (9223372036854775807 < O.size + 1) := by omega
   have q2 : ¬ (9223372036854775807 < O.size + 1 + AN.size) := by omega
   have q3 : ¬ (9223372036854775807 < O.size + 1 + AN.size + 2) := by omega
   have q4 : ¬ (9223372036854775807 < O.size + 1 + AN.size + 2 + EV.size) := by omega
   have q5 : ¬ (9223372036854775807 < O.size + 1 + AN.size + 2 + EV.size + 1) := by omega
   obtain ⟨Y, hY⟩ : ∃ Y, V.drewN mm = Y := ⟨_, rfl⟩
   rw [hY]
   have x0 : ∀ n, (Y.drewN n).cell? ⟨ga, oa + j * 2, none⟩ = some (.string AN) := fun n => by rw [<- hY]; exact y0 mm
   have x1 : ∀ n, (Y.drewN n).cell? ⟨ga, oa + j * 2 + 1, none⟩ = some (.string AV) := fun n => by rw [<- hY]; exact y1 mm
   have x3 : ∀ n, (Y.drewN n).cell? ⟨N7, 3, none⟩ = some (.slice (some ⟨ga, oa, none⟩) an ac) := fun n => by rw [<- hY]; exact z3 mm
   have x3' : Y.cell? ⟨N7, 3, none⟩ = some (.slice (some ⟨ga, oa, none⟩) an ac) := x3 0
   have HY : Hid (V.drewN mm = Y) := hY
   clear hY y0 y1 z1 z3
   go_upto_region 10 with fail
   go_quiet ((go_at_call 52; exact Calls.quiet_of_same (hcall _)))
   go_wp2
   go_roundg (an - (j + 1))
   case rel => exact ⟨j + 1, mm + nq, rfl, by omega, by rw [<- HNX.out], by go_num, by rw [<- HY.out, World.drewN_drewN]⟩
   case measure => omega
  ·have hje : j = an := by omega
   subst hje
   have hb0 := HSZ.out j
   have hlast : zfj nm l j = ⟨(([60] ++ nm) ++ zcv l).toArray⟩ := by
    unfold zfj
    rw [List.take_of_length_le (by rw [HL.out]; exact Nat.le_refl _)]
   obtain ⟨O, hO⟩ : ∃ b, zfj nm l j = b := ⟨_, rfl⟩
   rw [hO] at hlast hb0 ⊢
   have HO : Hid (O = ⟨(([60] ++ nm) ++ zcv l).toArray⟩) := hlast
   have hjj : decide ((j : Int) < (j : Int)) = false := decide_eq_false (by omega)
   have rv := zch NM (fun k => k < (V.drewN mm).heap.size) (V.drewN mm)
   rw [HVOID.out] at rv
   have y1 := z1 mm
   have y3 := z3 mm
   clear hlast hO z1 z3 HA HSZ HL HAL
   go_upto_region 11 with fail
   go_wp2_with fail
   refine rv.mono ?_
   rintro e w9 ⟨rfl, hK9⟩
   have HK9 : Hid (Kept (fun k => k < X.heap.size) X w9) := HKV.out.trans (((Kept.refl _ V).drewN mm).trans (hK9.mono fun k h => h)|>.mono fun k h => ltl h HKV.out.size)
   clear rv hK9
   go_wp2
   go_ret
   refine ⟨?_, HK9.out⟩
   have e : (⟨(zdi (M.nd i).name (M.nd i).attrs).toArray⟩ : ByteArray) = O ++ ⟨#[62]⟩ := by
    rw [HO.out, zcd, HNL.out.1, HNL.out.2]
    show (⟨([60] ++ nm ++ (zcv l ++ [62])).toArray⟩ : ByteArray) = ⟨([60] ++ nm ++ zcv l ++ [62]).toArray⟩
    rw [List.append_assoc ([60] ++ nm)]
   rw [e]
   rfl
theorem zoo (hE : RE w0 r M R g nc) (hn : M.n <= 100000) (hi : i < M.n) (hk : (M.nd i).kind = 1) (hnl : (M.nd i).name.length <= 60) (h50 : (M.nd i).attrs.length <= 50) (hal : ∀ a ∈ (M.nd i).attrs, a.name.length <= 60 /\ a.value.length <= 2000) (hv : za7 (M.nd i).name = false) (hI : Zq1 w0 r i (.agg #[.bool sr, .slice la rn rc]) T) (hT : T.length <= 1000000000000) : Zki w0 r i (.agg #[.bool sr, .slice la rn rc]) (zdi (M.nd i).name (M.nd i).attrs ++ (T ++ zdm (M.nd i).name)) := by
 intro X hX
 obtain ⟨aa, ac, ka, kc, hA⟩ := hE i hi
 obtain ⟨W, N, hW, hN, hb, hkW, hz⟩ := zae X #[.bool sr, .slice la rn rc] 41
 have hwW : Kept (fun k => k < w0.heap.size) w0 W := hX.trans (hkW.mono fun k h => ltl h hX.size)
 have hat := hA W hwW
 have c1 := hat.c1
 have hr := hat.range
 have hats := hat.ats
 obtain ⟨kz, hkd⟩ : ∃ k : Int, ((M.nd i).kind : Int) = k := ⟨_, rfl⟩
 obtain ⟨NM, hNM⟩ : ∃ k : ByteArray, ⟨(M.nd i).name.toArray⟩ = k := ⟨_, rfl⟩
 obtain ⟨DT, hDT⟩ : ∃ k : ByteArray, ⟨(M.nd i).data.toArray⟩ = k := ⟨_, rfl⟩
 obtain ⟨an, han⟩ : ∃ k, (M.nd i).attrs.length = k := ⟨_, rfl⟩
 obtain ⟨up, hup⟩ : ∃ k, (M.pl i).up = k := ⟨_, rfl⟩
 obtain ⟨kn, hkn⟩ : ∃ k, (R i).length = k := ⟨_, rfl⟩
 obtain ⟨sh, hsh⟩ : ∃ k, (M.nd i).shadow = k := ⟨_, rfl⟩
 obtain ⟨ho, hho⟩ : ∃ k, (M.nd i).host = k := ⟨_, rfl⟩
 obtain ⟨co, hco⟩ : ∃ k, (M.nd i).content = k := ⟨_, rfl⟩
 obtain ⟨fl, hfl⟩ : ∃ k, (M.nd i).fl = k := ⟨_, rfl⟩
 rw [hkd, hNM, hDT, han, hup, hkn, hsh, hho, hco, hfl] at hr
 obtain ⟨m, hm⟩ : ∃ m, M.n = m := ⟨_, rfl⟩
 rw [hm] at c1
 have him : i < m := by rw [<- hm]; exact hi
 have hm5 : m <= 100000 := by rw [<- hm]; exact hn
 obtain ⟨V, N7, hV, hN7, hbV, hkV, hz7⟩ := zae W (rnC kz NM DT aa an ac up ka kn kc sh ho co fl).toArray 46
 have hwV : Kept (fun k => k < w0.heap.size) w0 V := hwW.trans (hkV.mono fun k h => ltl h hwW.size)
 have hbO : V.heap[N]? = some (.cells #[.bool sr, .slice la rn rc] 41 (0, 0)) := (hkV.block N (zac hb)).trans hb
 have HW : Hid (X.alloc (.cells #[.bool sr, .slice la rn rc] 41) = W) := hW
 have HN : Hid (X.heap.size = N) := hN
 have HN7 : Hid (W.heap.size = N7) := hN7
 have HV : Hid (W.alloc (.cells #[.int .u8 kz, .string NM, .string DT, .slice aa an ac, .int .i64 up, .slice ka kn kc, .int .i64 sh, .int .i64 ho, .int .i64 co, .bool fl.a, .bool fl.b, .bool fl.c, .bool fl.d, .bool fl.e] 46) = V) := hV
 have HKV : Hid (Kept (fun k => k < X.heap.size) X V) := hkW.trans (hkV.mono fun k h => ltl h hkW.size)
 have z0 : V.cell? ⟨N7, 0, none⟩ = some (.int .u8 kz) := by rw [zaa hbV]; rfl
 have z1 : ∀ n, (V.drewN n).cell? ⟨N7, 1, none⟩ = some (.string NM) := fun n => by show V.cell? _ = _; rw [zaa hbV]; rfl
 have z1' : V.cell? ⟨N7, 1, none⟩ = some (.string NM) := z1 0
 have z3 : ∀ n, (V.drewN n).cell? ⟨N7, 3, none⟩ = some (.slice aa an ac) := fun n => by show V.cell? _ = _; rw [zaa hbV]; rfl
 have hNs : NM.size <= 60 := by rw [<- hNM]; show Array.size _ <= _; rw [List.size_toArray]; exact hnl
 obtain ⟨l, hl⟩ : ∃ l, (M.nd i).attrs = l := ⟨_, rfl⟩
 obtain ⟨nm, hnm⟩ : ∃ l, (M.nd i).name = l := ⟨_, rfl⟩
 rw [hl] at han h50 hal hats
 rw [hnm] at hnl hNM
 have HA : Hid (Zah (fun q => q < w0.heap.size) V aa l) := hats.to (fun _ h => h) (fun q hq => hkV.block q (ltl hq hwW.size))
 have HSZ : Hid (∀ j, (zfj nm l j).size <= 1000000) := fun j => zht hnl h50 hal
 have HL : Hid (l.length = an) := han
 have HAL : Hid (∀ a ∈ l, a.name.length <= 60 /\ a.value.length <= 2000) := hal
 have HNM : Hid ((⟨nm.toArray⟩ : ByteArray) = NM) := hNM
 have han5 : an <= 50 := by rw [<- han]; exact h50
 have hs0 : (⟨#[60]⟩ : ByteArray) ++ NM = zfj nm l 0 := by
  rw [<- hNM]
  refine (zcd [60] ⟨nm.toArray⟩).trans ?_
  unfold zfj
  rw [List.take_zero]
  show _ = (⟨(([60] ++ nm) ++ []).toArray⟩ : ByteArray)
  rw [List.append_nil]
 have HS0 : Hid ((⟨#[60]⟩ : ByteArray) ++ NM = zfj nm l 0) := hs0
 have HVOID : Hid (za7 NM.toList = false) := by show za7 NM.toList = false; rw [<- hNM, ByteArray.toList_eq]; rw [hnm] at hv; exact hv
 have HNL : Hid ((M.nd i).name = nm /\ (M.nd i).attrs = l) := ⟨hnm, hl⟩
 have HIN : Hid (∀ Y, Kept (fun k => k < V.heap.size) V Y -> Calls Tryz.prog 22 #[.pointer (some ⟨r, 0, none⟩), .int .i64 (i : Int), .agg #[.bool sr, .slice la rn rc]] Y fun e w' => e = .returned (.string ⟨T.toArray⟩) /\ Kept (fun k => k < Y.heap.size) Y w') := fun Y hY => hI Y (hwV.trans (hY.mono fun k h => ltl h hwV.size))
 obtain ⟨TB, hTB⟩ : ∃ b : ByteArray, ⟨T.toArray⟩ = b := ⟨_, rfl⟩
 have hTs : TB.size <= 1000000000000 := by rw [<- hTB]; show T.toArray.size <= _; rw [List.size_toArray]; exact hT
 have HTB : Hid ((⟨T.toArray⟩ : ByteArray) = TB) := hTB
 have HNV : Hid (N < V.heap.size) := zac hbO
 have HN7V : Hid (N7 < V.heap.size) := zac hbV
 clear hv hI hTB hT
 obtain rfl : kz = 1 := by rw [<- hkd, hk]; rfl
 clear hk hnl h50 hal hl hnm hs0
 clear hE hX hA hW hN hb hkW hz hwW hat hV hN7 hkV hz7 hwV hbV hats hNM hDT han hup hkn hsh hho hco hfl hm hkd hi hn
 go_enter Tryz.func19, Tryz.ntmps19
 go_upto_region 1 with fail
 rw [HW.out, HN.out]
 clear HW HN
 have i1 : ((i : Int) < 0) = False := by rw [eq_iff_iff]; exact ⟨fun h => by omega, False.elim⟩
 have i2 : decide ((i : Int) < 0) = false := decide_eq_false (by omega)
 have i3 : decide ((m : Int) <= (i : Int)) = false := decide_eq_false (by omega)
 go_upto_region 3 with fail
 go_upto_region 4 with (refine wpList_load_mid rfl 46 _ rfl g (i * 14) rfl _ _ hr Tryz.underlying46 rfl zc5 ?_)
 rw [HN7.out, HV.out]
 clear HV HN7 hr c1 i1 i2 i3
 go_upto_region 7 with fail
 rw [HS0.out]
 clear z1'
 go_upto_region 8 with fail
 go_loopg [8, 9] an (fun gm v8 v9 wr => ∃ (j m : Nat), gm = an - j /\ j <= an /\ v8 = .string (zfj nm l j) /\ v9 = .int .i64 (j : Int) /\ wr = V.drewN m)
 case atStart => exact ⟨0, 0, rfl, Nat.zero_le _, rfl, rfl, rfl⟩
 case round =>
  obtain ⟨j, mm, hg, hj, rfl, rfl, rfl⟩ := hrel
  by_cases hlt : j < an
  ·have hjl : j < l.length := by rw [HL.out]; exact hlt
   obtain ⟨ga, oa, haa, -, hc0, hc1⟩ := HA.out j hjl
   subst haa
   have hlj : (j : Int) < (an : Int) := by omega
   have hlj0 : (0 : Int) <= (j : Int) := by omega
   have hxl := HAL.out l[j] (List.getElem_mem hjl)
   have hnext := zhs (nm := nm) hjl
   have hb0 := HSZ.out j
   have hb1 := HSZ.out (j + 1)
   obtain ⟨AN, hAN⟩ : ∃ b : ByteArray, ⟨l[j].name.toArray⟩ = b := ⟨_, rfl⟩
   obtain ⟨AV, hAV⟩ : ∃ b : ByteArray, ⟨l[j].value.toArray⟩ = b := ⟨_, rfl⟩
   have hev : (esc true AV.data.toList).length <= 20000 := by
    have := zeg true l[j].value
    rw [<- hAV]
    show (esc true l[j].value).length <= _
    omega
   have hAVs : AV.size < 1000000 := by rw [<- hAV]; show Array.size _ < _; rw [List.size_toArray]; omega
   have hANs : AN.size <= 60 := by rw [<- hAN]; show Array.size _ <= _; rw [List.size_toArray]; exact hxl.1
   obtain ⟨EV, hEV⟩ : ∃ b : ByteArray, ⟨(esc true AV.data.toList).toArray⟩ = b := ⟨_, rfl⟩
   have hEVs : EV.size <= 20000 := by rw [<- hEV]; show Array.size _ <= _; rw [List.size_toArray]; exact hev
   have e1 : (⟨(esc true l[j].value).toArray⟩ : ByteArray) = EV := by rw [<- hEV, <- hAV]
   rw [hAN, e1] at hnext
   have hc0' : V.cell? ⟨ga, oa + j * 2, none⟩ = some (.string AN) := by rw [<- hAN]; exact hc0
   have hc1' : V.cell? ⟨ga, oa + j * 2 + 1, none⟩ = some (.string AV) := by rw [<- hAV]; exact hc1
   have hcall : ∀ Y, Calls Tryz.prog 52 #[.string AV] Y fun e w' => e = .returned (.string EV) /\ w' = Y := fun Y => by
    have := zgw AV Y hAVs
    rw [hEV] at this
    exact this
   have y0 : ∀ n, (V.drewN n).cell? ⟨ga, oa + j * 2, none⟩ = some (.string AN) := fun n => hc0'
   have y1 : ∀ n, (V.drewN n).cell? ⟨ga, oa + j * 2 + 1, none⟩ = some (.string AV) := fun n => hc1'
   obtain ⟨O, hO⟩ : ∃ b, zfj nm l j = b := ⟨_, rfl⟩
   rw [hO] at hnext hb0 ⊢
   have HNX : Hid (((((O ++ ⟨#[32]⟩) ++ AN) ++ ⟨#[61, 34]⟩) ++ EV) ++ ⟨#[34]⟩ = zfj nm l (j + 1)) := hnext
   clear hnext hc0 hc1 hc0' hc1' hxl hAN hAV hev hEV e1 hO hb1
   have q1 : ¬ (9223372036854775807 < O.size + 1) := by omega
   have q2 : ¬ (9223372036854775807 < O.size + 1 + AN.size) := by omega
   have q3 : ¬ (9223372036854775807 < O.size + 1 + AN.size + 2) := by omega
   have q4 : ¬ (9223372036854775807 < O.size + 1 + AN.size + 2 + EV.size) := by omega
   have q5 : ¬ (9223372036854775807 < O.size + 1 + AN.size + 2 + EV.size + 1) := by omega
   obtain ⟨Y, hY⟩ : ∃ Y, V.drewN mm = Y := ⟨_, rfl⟩
   rw [hY]
   have x0 : ∀ n, (Y.drewN n).cell? ⟨ga, oa + j * 2, none⟩ = some (.string AN) := fun n => by rw [<- hY]; exact y0 mm
   have x1 : ∀ n, (Y.drewN n).cell? ⟨ga, oa + j * 2 + 1, none⟩ = some (.string AV) := fun n => by rw [<- hY]; exact y1 mm
   have x3 : ∀ n, (Y.drewN n).cell? ⟨N7, 3, none⟩ = some (.slice (some ⟨ga, oa, none⟩) an ac) := fun n => by rw [<- hY]; exact z3 mm
   have x3' : Y.cell? ⟨N7, 3, none⟩ = some (.slice (some ⟨ga, oa, none⟩) an ac) := x3 0
   have HY : Hid (V.drewN mm = Y) := hY
   clear hY y0 y1 z1 z3
   go_upto_region 10 with fail
   go_quiet ((go_at_call 52; exact Calls.quiet_of_same (hcall _)))
   go_wp2
   go_roundg (an - (j + 1))
   case rel => exact ⟨j + 1, mm + nq, rfl, by omega, by rw [<- HNX.out], by go_num, by rw [<- HY.out, World.drewN_drewN]⟩
   case measure => omega
  ·have hje : j = an := by omega
   subst hje
   have hb0 := HSZ.out j
   have hlast : zfj nm l j = ⟨(([60] ++ nm) ++ zcv l).toArray⟩ := by
    unfold zfj
    rw [List.take_of_length_le (by rw [HL.out]; exact Nat.le_refl _)]
   obtain ⟨O, hO⟩ : ∃ b, zfj nm l j = b := ⟨_, rfl⟩
   rw [hO] at hlast hb0 ⊢
   have HO : Hid (O = ⟨(([60] ++ nm) ++ zcv l).toArray⟩) := hlast
   have hjj : decide ((j : Int) < (j : Int)) = false := decide_eq_false (by omega)
   have rv := zch NM (fun k => k < (V.drewN mm).heap.size) (V.drewN mm)
   rw [HVOID.out] at rv
   have y1 := z1 mm
   have y3 := z3 mm
   clear hlast hO z1 z3 HA HSZ HL HAL
   have hVsz : V.heap.size = (V.drewN mm).heap.size := rfl
   have hkVm : Kept (fun k => k < V.heap.size) V (V.drewN mm) := (Kept.refl _ V).drewN mm
   go_upto_region 11 with fail
   go_upto_region 13 with (go_at_call 53; refine rv.mono ?_; rintro e w9 ⟨rfl, hK9⟩)
   have hV9 : Kept (fun k => k < V.heap.size) V w9 := hkVm.trans hK9
   have n9 : w9.heap[N]? = some (.cells #[.bool sr, .slice la rn rc] 41 (0, 0)) := (hV9.block N HNV.out).trans hbO
   have c90 : w9.cell? ⟨N, 0, none⟩ = some (.bool sr) := by rw [zaa n9]; rfl
   have c91 : w9.cell? ⟨N, 1, none⟩ = some (.slice la rn rc) := by rw [zaa n9]; rfl
   have c97 : w9.cell? ⟨N7, 1, none⟩ = some (.string NM) := (hV9.cell (p := ⟨N7, 1, none⟩) HN7V.out).trans y1
   have c90r := fun dd os => cell_regrown c90 dd os
   have c91r := fun dd os => cell_regrown c91 dd os
   have c97r := fun dd os => cell_regrown c97 dd os
   have hcI : ∀ dd os, Calls Tryz.prog 22 #[.pointer (some ⟨r, 0, none⟩), .int .i64 (i : Int), .agg #[.bool sr, .slice la rn rc]] (grow (redrawn w9 dd) os) fun e w'' => e = .returned (.string TB) /\ ∃ p : Regrown, w'' = grow (redrawn w9 p.d) p.os := fun dd os => by
    have r := HIN.out (grow (redrawn w9 dd) os) (hV9.trans ((Below.kept (below_regrown w9 dd os)).mono fun k h => ltl h hV9.size))
    rw [HTB.out] at r
    exact Calls.regrown_of (r.mono fun e w' h => ⟨h.1, h.2.below⟩)
   have HK9 : Hid (Kept (fun k => k < X.heap.size) X w9) := HKV.out.trans (hV9.mono fun k h => ltl h HKV.out.size)
   have q1 : ¬ (9223372036854775807 < O.size + 1) := by omega
   have q2 : ¬ (9223372036854775807 < O.size + 1 + TB.size) := by omega
   have q3 : ¬ (9223372036854775807 < O.size + 1 + TB.size + 2) := by omega
   have q4 : ¬ (9223372036854775807 < O.size + 1 + TB.size + 2 + NM.size) := by omega
   have q5 : ¬ (9223372036854775807 < O.size + 1 + TB.size + 2 + NM.size + 1) := by omega
   clear rv hK9 hV9 n9 c90 c91 c97 y1 y3 hkVm hVsz hbO
   refine wp_region_quiet_below (by kernel_rfl) (by kernel_rfl) ?_
   repeat (go_big_quiet_step (exact hcI _ _))
   refine wpQuiet_nil ?_
   intro _ hw'
   obtain ⟨⟨dq, osq⟩, hw''⟩ := hw'
   subst hw''
   go_wp2
   go_ret
   refine ⟨?_, HK9.out.trans ((Below.kept (below_regrown w9 dq osq)).mono fun k h => ltl h HK9.out.size)⟩
   have e : (⟨(zdi (M.nd i).name (M.nd i).attrs ++ (T ++ zdm (M.nd i).name)).toArray⟩ : ByteArray) = ((((O ++ ⟨#[62]⟩) ++ TB) ++ ⟨#[60, 47]⟩) ++ NM) ++ ⟨#[62]⟩ := by
    rw [HO.out, <- HTB.out, <- HNM.out, HNL.out.1, HNL.out.2]
    simp only [zcd]
    congr 2
    unfold zdi zdm
    simp only [List.append_assoc]
   rw [e]
   rfl
end
end Go.Proofs.YtikaheenjhdpmaaGreat
