/-
  The document's own Outer at a text.
-/
import Derived.Test.YtikaheenjhdpmaaGreatVRc
namespace Go.Proofs.YtikaheenjhdpmaaGreat
open Go.RowKit Go.Sort
set_option linter.unusedVariables false
set_option maxRecDepth 100000
set_option maxHeartbeats 8000000
section
variable {w0 : World} {r : Nat} {M : Dm} {R : Nat -> List Nat} {g nc : Nat} {sr : Bool} {la : Option Addr} {rn rc i : Nat} {T : List UInt8}
theorem zl3 (hE : RE w0 r M R g nc) (hn : M.n <= 100000) (hi : i < M.n) (hk : (M.nd i).kind = 2) (hd : (M.nd i).data.length < 1000000) {u : Nat} (hu : u < M.n) (hpl : (M.pl i).up = (u : Int)) (hku : (M.nd u).kind = 1) (hq : zh0 (M.nd u).name = true) : Zki w0 r i (.agg #[.bool sr, .slice la rn rc]) ((M.nd i).data) := by
 intro X hX
 obtain ⟨aa, ac, ka, kc, hA⟩ := hE i hi
 obtain ⟨W, N, hW, hN, hb, hkW, hz⟩ := zae X #[.bool sr, .slice la rn rc] 41
 have hwW : Kept (fun k => k < w0.heap.size) w0 W := hX.trans (hkW.mono fun k h => ltl h hX.size)
 have hat := hA W hwW
 have c1 := hat.c1
 have hr := hat.range
 have hats := hat.ats
 obtain ⟨kz, hkd⟩ : ∃ k : Int, ((M.nd i).kind : Int) = k := ⟨_, rfl⟩
 obtain ⟨NM, hNM⟩ : ∃ k : ByteArray, ⟨(M.nd i).name.toArray⟩ = k := ⟨_, rfl⟩
 obtain ⟨DT, hDT⟩ : ∃ k : ByteArray, ⟨(M.nd i).data.toArray⟩ = k := ⟨_, rfl⟩
 obtain ⟨an, han⟩ : ∃ k, (M.nd i).attrs.length = k := ⟨_, rfl⟩
 obtain ⟨up, hup⟩ : ∃ k, (M.pl i).up = k := ⟨_, rfl⟩
 obtain ⟨kn, hkn⟩ : ∃ k, (R i).length = k := ⟨_, rfl⟩
 obtain ⟨sh, hsh⟩ : ∃ k, (M.nd i).shadow = k := ⟨_, rfl⟩
 obtain ⟨ho, hho⟩ : ∃ k, (M.nd i).host = k := ⟨_, rfl⟩
 obtain ⟨co, hco⟩ : ∃ k, (M.nd i).content = k := ⟨_, rfl⟩
 obtain ⟨fl, hfl⟩ : ∃ k, (M.nd i).fl = k := ⟨_, rfl⟩
 rw [hkd, hNM, hDT, han, hup, hkn, hsh, hho, hco, hfl] at hr
 obtain ⟨m, hm⟩ : ∃ m, M.n = m := ⟨_, rfl⟩
 rw [hm] at c1
 have him : i < m := by rw [<- hm]; exact hi
 have hm5 : m <= 100000 := by rw [<- hm]; exact hn
 obtain ⟨V, N7, hV, hN7, hbV, hkV, hz7⟩ := zae W (rnC kz NM DT aa an ac up ka kn kc sh ho co fl).toArray 46
 have hwV : Kept (fun k => k < w0.heap.size) w0 V := hwW.trans (hkV.mono fun k h => ltl h hwW.size)
 have hbO : V.heap[N]? = some (.cells #[.bool sr, .slice la rn rc] 41 (0, 0)) := (hkV.block N (zac hb)).trans hb
 have HW : Hid (X.alloc (.cells #[.bool sr, .slice la rn rc] 41) = W) := hW
 have HN : Hid (X.heap.size = N) := hN
 have HN7 : Hid (W.heap.size = N7) := hN7
 have HV : Hid (W.alloc (.cells #[.int .u8 kz, .string NM, .string DT, .slice aa an ac, .int .i64 up, .slice ka kn kc, .int .i64 sh, .int .i64 ho, .int .i64 co, .bool fl.a, .bool fl.b, .bool fl.c, .bool fl.d, .bool fl.e] 46) = V) := hV
 have HKV : Hid (Kept (fun k => k < X.heap.size) X V) := hkW.trans (hkV.mono fun k h => ltl h hkW.size)
 have z0 : V.cell? ⟨N7, 0, none⟩ = some (.int .u8 kz) := by rw [zaa hbV]; rfl
 have z2 : V.cell? ⟨N7, 2, none⟩ = some (.string DT) := by rw [zaa hbV]; rfl
 have hDs : DT.size < 1000000 := by rw [<- hDT]; show Array.size _ < _; rw [List.size_toArray]; exact hd
 have z0r := fun dd os => cell_regrown z0 dd os
 have z2r := fun dd os => cell_regrown z2 dd os
 have z4 : V.cell? ⟨N7, 4, none⟩ = some (.int .i64 up) := by rw [zaa hbV]; rfl
 have z4r := fun dd os => cell_regrown z4 dd os
 obtain ⟨aa', ac', ka', kc', hA'⟩ := hE u hu
 have hatu := hA' V hwV
 have d1 := hatu.c1
 have uk : V.cell? ⟨g, u * 14, none⟩ = some (.int .u8 ((M.nd u).kind : Int)) := hatu.c 0 _ rfl
 have un : V.cell? ⟨g, u * 14 + 1, none⟩ = some (.string ⟨(M.nd u).name.toArray⟩) := hatu.c 1 _ rfl
 obtain ⟨UN, hUN⟩ : ∃ b : ByteArray, ⟨(M.nd u).name.toArray⟩ = b := ⟨_, rfl⟩
 rw [hUN] at un
 have hum : u < m := by rw [<- hm]; exact hu
 have hum2 : (u : Int) < (m : Int) := by omega
 have hum3 : (0 : Int) <= (u : Int) := by omega
 have hum4 : decide ((0 : Int) <= (u : Int)) = true := decide_eq_true hum3
 rw [hm] at d1
 have d1r := fun dd os => cell_regrown d1 dd os
 have ukr := fun dd os => cell_regrown uk dd os
 have unr := fun dd os => cell_regrown un dd os
 obtain rfl : up = (u : Int) := by rw [<- hup, hpl]
 rw [hku] at uk ukr
 have hraw : ∀ dd os, Calls Tryz.prog 54 #[.string UN] (grow (redrawn V dd) os) fun e w'' => e = .returned (.bool true) /\ ∃ p : Regrown, w'' = grow (redrawn V p.d) p.os := fun dd os => by
  have r := zj7 UN (fun k => k < (grow (redrawn V dd) os).heap.size) (grow (redrawn V dd) os)
  have e1 : zh0 UN.toList = true := by rw [<- hUN, ByteArray.toList_eq]; exact hq
  rw [e1] at r
  exact Calls.regrown_of (r.mono fun e w' h => ⟨h.1, h.2.below⟩)
 clear hku hq
 clear hA' hatu hUN hu hpl d1 uk un
 have HDT : Hid ((⟨(M.nd i).data.toArray⟩ : ByteArray) = DT) := hDT
 obtain rfl : kz = 2 := by rw [<- hkd, hk]; rfl
 clear hk hd
 clear hE hX hA hW hN hb hkW hz hwW hat hV hN7 hkV hz7 hwV hbV hbO hats hNM hDT han hkn hsh hho hco hfl hm hkd hi hn
 rw [HDT.out]
 go_enter Tryz.func19, Tryz.ntmps19
 go_upto_region 1 with fail
 rw [HW.out, HN.out]
 clear HW HN
 have i1 : ((i : Int) < 0) = False := by rw [eq_iff_iff]; exact ⟨fun h => by omega, False.elim⟩
 have i2 : decide ((i : Int) < 0) = false := decide_eq_false (by omega)
 have i3 : decide ((m : Int) <= (i : Int)) = false := decide_eq_false (by omega)
 go_upto_region 3 with fail
 go_upto_region 4 with (refine wpList_load_mid rfl 46 _ rfl g (i * 14) rfl _ _ hr Tryz.underlying46 rfl zc5 ?_)
 rw [HN7.out, HV.out]
 clear HV HN7 hr c1 i1 i2 i3
 go_upto_region 15 with fail
 refine wp_region_quiet_below (by kernel_rfl) (by kernel_rfl) ?_
 repeat (go_big_quiet_step (exact hraw _ _))
 refine wpQuiet_nil ?_
 intro _ hw'
 obtain ⟨⟨dq, osq⟩, hw''⟩ := hw'
 subst hw''
 go_wp2
 go_ret
 exact ⟨rfl, HKV.out.trans ((Below.kept (below_regrown V dq osq)).mono fun k h => ltl h HKV.out.size)⟩
theorem zjp (hE : RE w0 r M R g nc) (hn : M.n <= 100000) (hi : i < M.n) (hk : (M.nd i).kind = 2) (hd : (M.nd i).data.length < 1000000) {u : Nat} (hu : u < M.n) (hpl : (M.pl i).up = (u : Int)) (hku : (M.nd u).kind = 1) (hq : zh0 (M.nd u).name = false) : Zki w0 r i (.agg #[.bool sr, .slice la rn rc]) ((esc false (M.nd i).data)) := by
 intro X hX
 obtain ⟨aa, ac, ka, kc, hA⟩ := hE i hi
 obtain ⟨W, N, hW, hN, hb, hkW, hz⟩ := zae X #[.bool sr, .slice la rn rc] 41
 have hwW : Kept (fun k => k < w0.heap.size) w0 W := hX.trans (hkW.mono fun k h => ltl h hX.size)
 have hat := hA W hwW
 have c1 := hat.c1
 have hr := hat.range
 have hats := hat.ats
 obtain ⟨kz, hkd⟩ : ∃ k : Int, ((M.nd i).kind : Int) = k := ⟨_, rfl⟩
 obtain ⟨NM, hNM⟩ : ∃ k : ByteArray, ⟨(M.nd i).name.toArray⟩ = k := ⟨_, rfl⟩
 obtain ⟨DT, hDT⟩ : ∃ k : ByteArray, ⟨(M.nd i).data.toArray⟩ = k := ⟨_, rfl⟩
 obtain ⟨an, han⟩ : ∃ k, (M.nd i).attrs.length = k := ⟨_, rfl⟩
 obtain ⟨up, hup⟩ : ∃ k, (M.pl i).up = k := ⟨_, rfl⟩
 obtain ⟨kn, hkn⟩ : ∃ k, (R i).length = k := ⟨_, rfl⟩
 obtain ⟨sh, hsh⟩ : ∃ k, (M.nd i).shadow = k := ⟨_, rfl⟩
 obtain ⟨ho, hho⟩ : ∃ k, (M.nd i).host = k := ⟨_, rfl⟩
 obtain ⟨co, hco⟩ : ∃ k, (M.nd i).content = k := ⟨_, rfl⟩
 obtain ⟨fl, hfl⟩ : ∃ k, (M.nd i).fl = k := ⟨_, rfl⟩
 rw [hkd, hNM, hDT, han, hup, hkn, hsh, hho, hco, hfl] at hr
 obtain ⟨m, hm⟩ : ∃ m, M.n = m := ⟨_, rfl⟩
 rw [hm] at c1
 have him : i < m := by rw [<- hm]; exact hi
 have hm5 : m <= 100000 := by rw [<- hm]; exact hn
 obtain ⟨V, N7, hV, hN7, hbV, hkV, hz7⟩ := zae W (rnC kz NM DT aa an ac up ka kn kc sh ho co fl).toArray 46
 have hwV : Kept (fun k => k < w0.heap.size) w0 V := hwW.trans (hkV.mono fun k h => ltl h hwW.size)
 have hbO : V.heap[N]? = some (.cells #[.bool sr, .slice la rn rc] 41 (0, 0)) := (hkV.block N (zac hb)).trans hb
 have HW : Hid (X.alloc (.cells #[.bool sr, .slice la rn rc] 41) = W) := hW
 have HN : Hid (X.heap.size = N) := hN
 have HN7 : Hid (W.heap.size = N7) := hN7
 have HV : Hid (W.alloc (.cells #[.int .u8 kz, .string NM, .string DT, .slice aa an ac, .int .i64 up, .slice ka kn kc, .int .i64 sh, .int .i64 ho, .int .i64 co, .bool fl.a, .bool fl.b, .bool fl.c, .bool fl.d, .bool fl.e] 46) = V) := hV
 have HKV : Hid (Kept (fun k => k < X.heap.size) X V) := hkW.trans (hkV.mono fun k h => ltl h hkW.size)
 have z0 : V.cell? ⟨N7, 0, none⟩ = some (.int .u8 kz) := by rw [zaa hbV]; rfl
 have z2 : V.cell? ⟨N7, 2, none⟩ = some (.string DT) := by rw [zaa hbV]; rfl
 have hDs : DT.size < 1000000 := by rw [<- hDT]; show Array.size _ < _; rw [List.size_toArray]; exact hd
 have z0r := fun dd os => cell_regrown z0 dd os
 have z2r := fun dd os => cell_regrown z2 dd os
 have z4 : V.cell? ⟨N7, 4, none⟩ = some (.int .i64 up) := by rw [zaa hbV]; rfl
 have z4r := fun dd os => cell_regrown z4 dd os
 obtain ⟨aa', ac', ka', kc', hA'⟩ := hE u hu
 have hatu := hA' V hwV
 have d1 := hatu.c1
 have uk : V.cell? ⟨g, u * 14, none⟩ = some (.int .u8 ((M.nd u).kind : Int)) := hatu.c 0 _ rfl
 have un : V.cell? ⟨g, u * 14 + 1, none⟩ = some (.string ⟨(M.nd u).name.toArray⟩) := hatu.c 1 _ rfl
 obtain ⟨UN, hUN⟩ : ∃ b : ByteArray, ⟨(M.nd u).name.toArray⟩ = b := ⟨_, rfl⟩
 rw [hUN] at un
 have hum : u < m := by rw [<- hm]; exact hu
 have hum2 : (u : Int) < (m : Int) := by omega
 have hum3 : (0 : Int) <= (u : Int) := by omega
 have hum4 : decide ((0 : Int) <= (u : Int)) = true := decide_eq_true hum3
 rw [hm] at d1
 have d1r := fun dd os => cell_regrown d1 dd os
 have ukr := fun dd os => cell_regrown uk dd os
 have unr := fun dd os => cell_regrown un dd os
 obtain rfl : up = (u : Int) := by rw [<- hup, hpl]
 rw [hku] at uk ukr
 have hraw : ∀ dd os, Calls Tryz.prog 54 #[.string UN] (grow (redrawn V dd) os) fun e w'' => e = .returned (.bool false) /\ ∃ p : Regrown, w'' = grow (redrawn V p.d) p.os := fun dd os => by
  have r := zj7 UN (fun k => k < (grow (redrawn V dd) os).heap.size) (grow (redrawn V dd) os)
  have e1 : zh0 UN.toList = false := by rw [<- hUN, ByteArray.toList_eq]; exact hq
  rw [e1] at r
  exact Calls.regrown_of (r.mono fun e w' h => ⟨h.1, h.2.below⟩)
 clear hku hq
 clear hA' hatu hUN hu hpl d1 uk un
 have HDT : Hid ((⟨(M.nd i).data.toArray⟩ : ByteArray) = DT) := hDT
 obtain rfl : kz = 2 := by rw [<- hkd, hk]; rfl
 clear hk hd
 clear hE hX hA hW hN hb hkW hz hwW hat hV hN7 hkV hz7 hwV hbV hbO hats hNM hDT han hkn hsh hho hco hfl hm hkd hi hn
 go_enter Tryz.func19, Tryz.ntmps19
 go_upto_region 1 with fail
 rw [HW.out, HN.out]
 clear HW HN
 have i1 : ((i : Int) < 0) = False := by rw [eq_iff_iff]; exact ⟨fun h => by omega, False.elim⟩
 have i2 : decide ((i : Int) < 0) = false := decide_eq_false (by omega)
 have i3 : decide ((m : Int) <= (i : Int)) = false := decide_eq_false (by omega)
 go_upto_region 3 with fail
 go_upto_region 4 with (refine wpList_load_mid rfl 46 _ rfl g (i * 14) rfl _ _ hr Tryz.underlying46 rfl zc5 ?_)
 rw [HN7.out, HV.out]
 clear HV HN7 hr c1 i1 i2 i3
 go_upto_region 15 with fail
 refine wp_region_quiet_below (by kernel_rfl) (by kernel_rfl) ?_
 repeat (go_big_quiet_step (exact hraw _ _))
 refine wpQuiet_nil ?_
 intro _ hw'
 obtain ⟨⟨dq, osq⟩, hw''⟩ := hw'
 subst hw''
 have rt := zfy DT (grow (redrawn V dq) osq) hDs
 go_wp2_with fail
 refine rt.mono ?_
 rintro e w9 ⟨rfl, rfl⟩
 go_wp2
 go_ret
 refine ⟨?_, HKV.out.trans ((Below.kept (below_regrown V dq osq)).mono fun k h => ltl h HKV.out.size)⟩
 rw [<- HDT.out]
 rfl
theorem zon (hE : RE w0 r M R g nc) (hn : M.n <= 100000) (hi : i < M.n) (hk : (M.nd i).kind = 2) (hd : (M.nd i).data.length < 1000000) {u : Nat} (hu : u < M.n) (hpl : (M.pl i).up = (u : Int)) (hku : (M.nd u).kind ≠ 1) : Zki w0 r i (.agg #[.bool sr, .slice la rn rc]) ((esc false (M.nd i).data)) := by
 intro X hX
 obtain ⟨aa, ac, ka, kc, hA⟩ := hE i hi
 obtain ⟨W, N, hW, hN, hb, hkW, hz⟩ := zae X #[.bool sr, .slice la rn rc] 41
 have hwW : Kept (fun k => k < w0.heap.size) w0 W := hX.trans (hkW.mono fun k h => ltl h hX.size)
 have hat := hA W hwW
 have c1 := hat.c1
 have hr := hat.range
 have hats := hat.ats
 obtain ⟨kz, hkd⟩ : ∃ k : Int, ((M.nd i).kind : Int) = k := ⟨_, rfl⟩
 obtain ⟨NM, hNM⟩ : ∃ k : ByteArray, ⟨(M.nd i).name.toArray⟩ = k := ⟨_, rfl⟩
 obtain ⟨DT, hDT⟩ : ∃ k : ByteArray, ⟨(M.nd i).data.toArray⟩ = k := ⟨_, rfl⟩
 obtain ⟨an, han⟩ : ∃ k, (M.nd i).attrs.length = k := ⟨_, rfl⟩
 obtain ⟨up, hup⟩ : ∃ k, (M.pl i).up = k := ⟨_, rfl⟩
 obtain ⟨kn, hkn⟩ : ∃ k, (R i).length = k := ⟨_, rfl⟩
 obtain ⟨sh, hsh⟩ : ∃ k, (M.nd i).shadow = k := ⟨_, rfl⟩
 obtain ⟨ho, hho⟩ : ∃ k, (M.nd i).host = k := ⟨_, rfl⟩
 obtain ⟨co, hco⟩ : ∃ k, (M.nd i).content = k := ⟨_, rfl⟩
 obtain ⟨fl, hfl⟩ : ∃ k, (M.nd i).fl = k := ⟨_, rfl⟩
 rw [hkd, hNM, hDT, han, hup, hkn, hsh, hho, hco, hfl] at hr
 obtain ⟨m, hm⟩ : ∃ m, M.n = m := ⟨_, rfl⟩
 rw [hm] at c1
 have him : i < m := by rw [<- hm]; exact hi
 have hm5 : m <= 100000 := by rw [<- hm]; exact hn
 obtain ⟨V, N7, hV, hN7, hbV, hkV, hz7⟩ := zae W (rnC kz NM DT aa an ac up ka kn kc sh ho co fl).toArray 46
 have hwV : Kept (fun k => k < w0.heap.size) w0 V := hwW.trans (hkV.mono fun k h => ltl h hwW.size)
 have hbO : V.heap[N]? = some (.cells #[.bool sr, .slice la rn rc] 41 (0, 0)) := (hkV.block N (zac hb)).trans hb
 have HW : Hid (X.alloc (.cells #[.bool sr, .slice la rn rc] 41) = W) := hW
 have HN : Hid (X.heap.size = N) := hN
 have HN7 : Hid (W.heap.size = N7) := hN7
 have HV : Hid (W.alloc (.cells #[.int .u8 kz, .string NM, .string DT, .slice aa an ac, .int .i64 up, .slice ka kn kc, .int .i64 sh, .int .i64 ho, .int .i64 co, .bool fl.a, .bool fl.b, .bool fl.c, .bool fl.d, .bool fl.e] 46) = V) := hV
 have HKV : Hid (Kept (fun k => k < X.heap.size) X V) := hkW.trans (hkV.mono fun k h => ltl h hkW.size)
 have z0 : V.cell? ⟨N7, 0, none⟩ = some (.int .u8 kz) := by rw [zaa hbV]; rfl
 have z2 : V.cell? ⟨N7, 2, none⟩ = some (.string DT) := by rw [zaa hbV]; rfl
 have hDs : DT.size < 1000000 := by rw [<- hDT]; show Array.size _ < _; rw [List.size_toArray]; exact hd
 have z0r := fun dd os => cell_regrown z0 dd os
 have z2r := fun dd os => cell_regrown z2 dd os
 have z4 : V.cell? ⟨N7, 4, none⟩ = some (.int .i64 up) := by rw [zaa hbV]; rfl
 have z4r := fun dd os => cell_regrown z4 dd os
 obtain ⟨aa', ac', ka', kc', hA'⟩ := hE u hu
 have hatu := hA' V hwV
 have d1 := hatu.c1
 have uk : V.cell? ⟨g, u * 14, none⟩ = some (.int .u8 ((M.nd u).kind : Int)) := hatu.c 0 _ rfl
 have un : V.cell? ⟨g, u * 14 + 1, none⟩ = some (.string ⟨(M.nd u).name.toArray⟩) := hatu.c 1 _ rfl
 obtain ⟨UN, hUN⟩ : ∃ b : ByteArray, ⟨(M.nd u).name.toArray⟩ = b := ⟨_, rfl⟩
 rw [hUN] at un
 have hum : u < m := by rw [<- hm]; exact hu
 have hum2 : (u : Int) < (m : Int) := by omega
 have hum3 : (0 : Int) <= (u : Int) := by omega
 have hum4 : decide ((0 : Int) <= (u : Int)) = true := decide_eq_true hum3
 rw [hm] at d1
 have d1r := fun dd os => cell_regrown d1 dd os
 have ukr := fun dd os => cell_regrown uk dd os
 have unr := fun dd os => cell_regrown un dd os
 obtain rfl : up = (u : Int) := by rw [<- hup, hpl]
 have n1 : (((M.nd u).kind : Int) == 1) = false := by
  have : ((M.nd u).kind : Int) ≠ 1 := fun h => hku (by omega)
  simpa using this
 obtain ⟨uz, huz⟩ : ∃ z : Int, ((M.nd u).kind : Int) = z := ⟨_, rfl⟩
 rw [huz] at ukr n1
 clear hku huz
 clear hA' hatu hUN hu hpl d1 uk un
 have HDT : Hid ((⟨(M.nd i).data.toArray⟩ : ByteArray) = DT) := hDT
 obtain rfl : kz = 2 := by rw [<- hkd, hk]; rfl
 clear hk hd
 clear hE hX hA hW hN hb hkW hz hwW hat hV hN7 hkV hz7 hwV hbV hbO hats hNM hDT han hkn hsh hho hco hfl hm hkd hi hn
 go_enter Tryz.func19, Tryz.ntmps19
 go_upto_region 1 with fail
 rw [HW.out, HN.out]
 clear HW HN
 have i1 : ((i : Int) < 0) = False := by rw [eq_iff_iff]; exact ⟨fun h => by omega, False.elim⟩
 have i2 : decide ((i : Int) < 0) = false := decide_eq_false (by omega)
 have i3 : decide ((m : Int) <= (i : Int)) = false := decide_eq_false (by omega)
 go_upto_region 3 with fail
 go_upto_region 4 with (refine wpList_load_mid rfl 46 _ rfl g (i * 14) rfl _ _ hr Tryz.underlying46 rfl zc5 ?_)
 rw [HN7.out, HV.out]
 clear HV HN7 hr c1 i1 i2 i3
 go_upto_region 15 with fail
 refine wp_region_quiet_below (by kernel_rfl) (by kernel_rfl) ?_
 repeat (go_big_quiet_step (fail))
 refine wpQuiet_nil ?_
 intro _ hw'
 obtain ⟨⟨dq, osq⟩, hw''⟩ := hw'
 subst hw''
 have rt := zfy DT (grow (redrawn V dq) osq) hDs
 go_wp2_with fail
 refine rt.mono ?_
 rintro e w9 ⟨rfl, rfl⟩
 go_wp2
 go_ret
 refine ⟨?_, HKV.out.trans ((Below.kept (below_regrown V dq osq)).mono fun k h => ltl h HKV.out.size)⟩
 rw [<- HDT.out]
 rfl
theorem zlb (hE : RE w0 r M R g nc) (hn : M.n <= 100000) (hi : i < M.n) (hk : (M.nd i).kind = 2) (hd : (M.nd i).data.length < 1000000) (hpl : (M.pl i).up = -1) : Zki w0 r i (.agg #[.bool sr, .slice la rn rc]) ((esc false (M.nd i).data)) := by
 intro X hX
 obtain ⟨aa, ac, ka, kc, hA⟩ := hE i hi
 obtain ⟨W, N, hW, hN, hb, hkW, hz⟩ := zae X #[.bool sr, .slice la rn rc] 41
 have hwW : Kept (fun k => k < w0.heap.size) w0 W := hX.trans (hkW.mono fun k h => ltl h hX.size)
 have hat := hA W hwW
 have c1 := hat.c1
 have hr := hat.range
 have hats := hat.ats
 obtain ⟨kz, hkd⟩ : ∃ k : Int, ((M.nd i).kind : Int) = k := ⟨_, rfl⟩
 obtain ⟨NM, hNM⟩ : ∃ k : ByteArray, ⟨(M.nd i).name.toArray⟩ = k := ⟨_, rfl⟩
 obtain ⟨DT, hDT⟩ : ∃ k : ByteArray, ⟨(M.nd i).data.toArray⟩ = k := ⟨_, rfl⟩
 obtain ⟨an, han⟩ : ∃ k, (M.nd i).attrs.length = k := ⟨_, rfl⟩
 obtain ⟨up, hup⟩ : ∃ k, (M.pl i).up = k := ⟨_, rfl⟩
 obtain ⟨kn, hkn⟩ : ∃ k, (R i).length = k := ⟨_, rfl⟩
 obtain ⟨sh, hsh⟩ : ∃ k, (M.nd i).shadow = k := ⟨_, rfl⟩
 obtain ⟨ho, hho⟩ : ∃ k, (M.nd i).host = k := ⟨_, rfl⟩
 obtain ⟨co, hco⟩ : ∃ k, (M.nd i).content = k := ⟨_, rfl⟩
 obtain ⟨fl, hfl⟩ : ∃ k, (M.nd i).fl = k := ⟨_, rfl⟩
 rw [hkd, hNM, hDT, han, hup, hkn, hsh, hho, hco, hfl] at hr
 obtain ⟨m, hm⟩ : ∃ m, M.n = m := ⟨_, rfl⟩
 rw [hm] at c1
 have him : i < m := by rw [<- hm]; exact hi
 have hm5 : m <= 100000 := by rw [<- hm]; exact hn
 obtain ⟨V, N7, hV, hN7, hbV, hkV, hz7⟩ := zae W (rnC kz NM DT aa an ac up ka kn kc sh ho co fl).toArray 46
 have hwV : Kept (fun k => k < w0.heap.size) w0 V := hwW.trans (hkV.mono fun k h => ltl h hwW.size)
 have hbO : V.heap[N]? = some (.cells #[.bool sr, .slice la rn rc] 41 (0, 0)) := (hkV.block N (zac hb)).trans hb
 have HW : Hid (X.alloc (.cells #[.bool sr, .slice la rn rc] 41) = W) := hW
 have HN : Hid (X.heap.size = N) := hN
 have HN7 : Hid (W.heap.size = N7) := hN7
 have HV : Hid (W.alloc (.cells #[.int .u8 kz, .string NM, .string DT, .slice aa an ac, .int .i64 up, .slice ka kn kc, .int .i64 sh, .int .i64 ho, .int .i64 co, .bool fl.a, .bool fl.b, .bool fl.c, .bool fl.d, .bool fl.e] 46) = V) := hV
 have HKV : Hid (Kept (fun k => k < X.heap.size) X V) := hkW.trans (hkV.mono fun k h => ltl h hkW.size)
 have z0 : V.cell? ⟨N7, 0, none⟩ = some (.int .u8 kz) := by rw [zaa hbV]; rfl
 have z2 : V.cell? ⟨N7, 2, none⟩ = some (.string DT) := by rw [zaa hbV]; rfl
 have hDs : DT.size < 1000000 := by rw [<- hDT]; show Array.size _ < _; rw [List.size_toArray]; exact hd
 have z0r := fun dd os => cell_regrown z0 dd os
 have z2r := fun dd os => cell_regrown z2 dd os
 have z4 : V.cell? ⟨N7, 4, none⟩ = some (.int .i64 up) := by rw [zaa hbV]; rfl
 have z4r := fun dd os => cell_regrown z4 dd os
 obtain rfl : up = -1 := by rw [<- hup, hpl]
 have n0 : decide ((0 : Int) <= -1) = false := rfl
 clear hpl
 have HDT : Hid ((⟨(M.nd i).data.toArray⟩ : ByteArray) = DT) := hDT
 obtain rfl : kz = 2 := by rw [<- hkd, hk]; rfl
 clear hk hd
 clear hE hX hA hW hN hb hkW hz hwW hat hV hN7 hkV hz7 hwV hbV hbO hats hNM hDT han hkn hsh hho hco hfl hm hkd hi hn
 go_enter Tryz.func19, Tryz.ntmps19
 go_upto_region 1 with fail
 rw [HW.out, HN.out]
 clear HW HN
 have i1 : ((i : Int) < 0) = False := by rw [eq_iff_iff]; exact ⟨fun h => by omega, False.elim⟩
 have i2 : decide ((i : Int) < 0) = false := decide_eq_false (by omega)
 have i3 : decide ((m : Int) <= (i : Int)) = false := decide_eq_false (by omega)
 go_upto_region 3 with fail
 go_upto_region 4 with (refine wpList_load_mid rfl 46 _ rfl g (i * 14) rfl _ _ hr Tryz.underlying46 rfl zc5 ?_)
 rw [HN7.out, HV.out]
 clear HV HN7 hr c1 i1 i2 i3
 go_upto_region 15 with fail
 refine wp_region_quiet_below (by kernel_rfl) (by kernel_rfl) ?_
 repeat (go_big_quiet_step (fail))
 refine wpQuiet_nil ?_
 intro _ hw'
 obtain ⟨⟨dq, osq⟩, hw''⟩ := hw'
 subst hw''
 have rt := zfy DT (grow (redrawn V dq) osq) hDs
 go_wp2_with fail
 refine rt.mono ?_
 rintro e w9 ⟨rfl, rfl⟩
 go_wp2
 go_ret
 refine ⟨?_, HKV.out.trans ((Below.kept (below_regrown V dq osq)).mono fun k h => ltl h HKV.out.size)⟩
 rw [<- HDT.out]
 rfl
end
end Go.Proofs.YtikaheenjhdpmaaGreat
