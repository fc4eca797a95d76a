/-
  The document's own Inner at a node that may hold something.
-/
import Derived.Test.YtikaheenjhdpmaaGreatVRh
import Derived.Deep.LoopGhost
namespace Go.Proofs.YtikaheenjhdpmaaGreat
open Go.RowKit Go.Sort
set_option linter.unusedVariables false
set_option maxRecDepth 100000
set_option maxHeartbeats 8000000
section
variable {w0 : World} {r : Nat} {M : Dm} {R : Nat -> List Nat} {g nc : Nat} {sr : Bool} {la : Option Addr} {rn rc i : Nat}
def Zum (w0 : World) (r i : Nat) (ov : Value) (T : List UInt8) : Prop := ∀ Y, Kept (fun k => k < w0.heap.size) w0 Y -> Calls Tryz.prog 64 #[.pointer (some ⟨r, 0, none⟩), .int .i64 (i : Int), ov] Y fun e w' => e = .returned (.string ⟨T.toArray⟩) /\ Kept (fun k => k < Y.heap.size) Y w'
def Zuv (w0 : World) (r i : Nat) (ov : Value) (c : Bool) : Prop := ∀ Y, Kept (fun k => k < w0.heap.size) w0 Y -> Calls Tryz.prog 63 #[.pointer (some ⟨r, 0, none⟩), .int .i64 (i : Int), ov] Y fun e w' => e = .returned (.bool c) /\ Kept (fun k => k < Y.heap.size) Y w'
def zmf (SH : List UInt8) (O : Nat -> List UInt8) (q : List Nat) (j : Nat) : ByteArray := ⟨(SH ++ (q.take j).flatMap O).toArray⟩
theorem zim {SH : List UInt8} {O : Nat -> List UInt8} {q : List Nat} {j : Nat} (h : j < q.length) : zmf SH O q j ++ ⟨(O q[j]).toArray⟩ = zmf SH O q (j + 1) := by
 unfold zmf
 rw [zcd, List.take_succ_eq_append_getElem h, List.flatMap_append, List.flatMap_singleton, List.append_assoc]
theorem ziw {SH : List UInt8} {O : Nat -> List UInt8} {q : List Nat} {B : Nat} (j : Nat) (h : SH.length + (q.flatMap O).length <= B) : (zmf SH O q j).size <= B := by
 have : q.flatMap O = (q.take j).flatMap O ++ (q.drop j).flatMap O := by rw [<- List.flatMap_append, List.take_append_drop]
 show Array.size _ <= _
 rw [List.size_toArray, List.length_append]
 rw [this, List.length_append] at h
 omega
theorem zmk {SH : List UInt8} {O : Nat -> List UInt8} {q : List Nat} {B j : Nat} (hj : j < q.length) (h : SH.length + (q.flatMap O).length <= B) : (O q[j]).length <= B := by
 have h1 := ziw (j + 1) h
 rw [<- zim hj, ByteArray.size_append] at h1
 have : (⟨(O q[j]).toArray⟩ : ByteArray).size = (O q[j]).length := by show Array.size _ = _; rw [List.size_toArray]
 omega
theorem zg0 (hE : RE w0 r M R g nc) (hn : M.n <= 100000) (hi : i < M.n) (hv : (M.nd i).kind = 1 -> za7 (M.nd i).name = false)
  (SH : List UInt8) (cs : Bool) (sh : ((M.nd i).shadow = -1 /\ cs = false) \/ ∃ s : Nat, s < M.n /\ (M.nd i).shadow = (s : Int) /\ Zuv w0 r s (.agg #[.bool sr, .slice la rn rc]) cs /\ (cs = true -> Zum w0 r s (.agg #[.bool sr, .slice la rn rc]) SH))
  (hcs : cs = false -> SH = []) (u : Nat) (hu : u < M.n) (co : ((M.nd i).content = -1 /\ u = i) \/ (M.nd i).content = (u : Int))
  (O : Nat -> List UInt8) (kids : ∀ k ∈ R u, k < M.n /\ Zki w0 r k (.agg #[.bool sr, .slice la rn rc]) (O k)) (hq : (R u).length <= 100000) (hl : SH.length + ((R u).flatMap O).length <= 1000000000000) :
  Zq1 w0 r i (.agg #[.bool sr, .slice la rn rc]) (SH ++ (R u).flatMap O) := by
 intro X hX
 obtain ⟨aa, ac, ka, kc, hA⟩ := hE i hi
 obtain ⟨W, N, hW, hN, hb, hkW, hz⟩ := zae X #[.bool sr, .slice la rn rc] 41
 have hwW : Kept (fun k => k < w0.heap.size) w0 W := hX.trans (hkW.mono fun k h => ltl h hX.size)
 have hat := hA W hwW
 have c1 := hat.c1
 have uk : W.cell? ⟨g, i * 14, none⟩ = some (.int .u8 ((M.nd i).kind : Int)) := hat.c 0 _ rfl
 have un : W.cell? ⟨g, i * 14 + 1, none⟩ = some (.string ⟨(M.nd i).name.toArray⟩) := hat.c 1 _ rfl
 obtain ⟨UN, hUN⟩ : ∃ b : ByteArray, ⟨(M.nd i).name.toArray⟩ = b := ⟨_, rfl⟩
 rw [hUN] at un
 have rv := zch UN (fun k => k < W.heap.size) W
 have HUN : Hid (za7 UN.toList = za7 (M.nd i).name) := by show za7 UN.toList = _; rw [<- hUN, ByteArray.toList_eq]
 obtain ⟨m, hm⟩ : ∃ m, M.n = m := ⟨_, rfl⟩
 rw [hm] at c1
 have him : i < m := by rw [<- hm]; exact hi
 have hm5 : m <= 100000 := by rw [<- hm]; exact hn
 have HM : Hid (M.n = m) := hm
 have HW : Hid (X.alloc (.cells #[.bool sr, .slice la rn rc] 41) = W) := hW
 have HN : Hid (X.heap.size = N) := hN
 have HKW : Hid (Kept (fun k => k < X.heap.size) X W) := hkW
 have HWW : Hid (Kept (fun k => k < w0.heap.size) w0 W) := hwW
 have HB : Hid (W.heap[N]? = some (.cells #[.bool sr, .slice la rn rc] 41 (0, 0))) := hb
 have HA : Hid (∀ Y, Kept (fun k => k < w0.heap.size) w0 Y -> RAt M R r g nc i aa ac ka kc w0.heap.size Y) := hA
 have i2 : decide ((i : Int) < 0) = false := decide_eq_false (by omega)
 have i3 : decide ((m : Int) <= (i : Int)) = false := decide_eq_false (by omega)
 have HE : Hid (RE w0 r M R g nc) := hE
 have HSH : Hid _ := sh
 have HKD : Hid _ := kids
 clear hE hX hA hW hN hb hkW hz hwW hat hUN hm hi hn sh kids
 go_enter Tryz.func22, Tryz.ntmps22
 go_upto_region 1 with fail
 rw [HW.out, HN.out]
 clear HW HN
 go_cut [43] (fun v wx => v = .bool false /\ Kept (fun k => k < W.heap.size) W wx)
 case first =>
  by_cases k1 : (M.nd i).kind = 1
  ·rw [k1] at uk
   have uk' : W.cell? ⟨g, i * 14, none⟩ = some (.int .u8 1) := uk
   rw [HUN.out, hv k1] at rv
   clear uk
   go_wp2_with fail
   refine rv.mono ?_
   rintro e w9 ⟨rfl, hK9⟩
   have HK9 : Hid (Kept (fun k => k < W.heap.size) W w9) := hK9
   clear hK9 rv
   go_wp2_with fail
   go_meet
   case rel => exact ⟨by rw [decide_eq_false (show ¬ m <= i by omega)], HK9.out⟩
  ·have n1 : (((M.nd i).kind : Int) == 1) = false := by
    have : ((M.nd i).kind : Int) ≠ 1 := fun h => k1 (by omega)
    simpa using this
   obtain ⟨kz, hkz⟩ : ∃ z : Int, ((M.nd i).kind : Int) = z := ⟨_, rfl⟩
   rw [hkz] at uk n1
   clear rv hkz k1
   go_wp2_with fail
   go_meet
   case rel => exact ⟨by rw [decide_eq_false (show ¬ m <= i by omega)], Kept.refl _ _⟩
 case rest =>
 obtain ⟨rfl, hKc⟩ := hcut
 clear uk un rv c1
 have hw0c : Kept (fun k => k < w0.heap.size) w0 wc := HWW.out.trans (hKc.mono fun k h => ltl h HWW.out.size)
 have hat := HA.out wc hw0c
 have c1 := hat.c1
 rw [HM.out] at c1
 have hr := hat.range
 obtain ⟨kz, hkd⟩ : ∃ k : Int, ((M.nd i).kind : Int) = k := ⟨_, rfl⟩
 obtain ⟨NM, hNM⟩ : ∃ k : ByteArray, ⟨(M.nd i).name.toArray⟩ = k := ⟨_, rfl⟩
 obtain ⟨DT, hDT⟩ : ∃ k : ByteArray, ⟨(M.nd i).data.toArray⟩ = k := ⟨_, rfl⟩
 obtain ⟨an, han⟩ : ∃ k, (M.nd i).attrs.length = k := ⟨_, rfl⟩
 obtain ⟨up, hup⟩ : ∃ k, (M.pl i).up = k := ⟨_, rfl⟩
 obtain ⟨kn, hkn⟩ : ∃ k, (R i).length = k := ⟨_, rfl⟩
 obtain ⟨sw, hsh⟩ : ∃ k, (M.nd i).shadow = k := ⟨_, rfl⟩
 obtain ⟨ho, hho⟩ : ∃ k, (M.nd i).host = k := ⟨_, rfl⟩
 obtain ⟨ct, hco⟩ : ∃ k, (M.nd i).content = k := ⟨_, rfl⟩
 obtain ⟨fl, hfl⟩ : ∃ k, (M.nd i).fl = k := ⟨_, rfl⟩
 rw [hkd, hNM, hDT, han, hup, hkn, hsh, hho, hco, hfl] at hr
 obtain ⟨V, N7, hV, hN7, hbV, hkV, hz7⟩ := zae wc (rnC kz NM DT aa an ac up ka kn kc sw ho ct fl).toArray 46
 have HN7 : Hid (wc.heap.size = N7) := hN7
 have HV : Hid (wc.alloc (.cells #[.int .u8 kz, .string NM, .string DT, .slice aa an ac, .int .i64 up, .slice ka kn kc, .int .i64 sw, .int .i64 ho, .int .i64 ct, .bool fl.a, .bool fl.b, .bool fl.c, .bool fl.d, .bool fl.e] 46) = V) := hV
 have hw0V : Kept (fun k => k < w0.heap.size) w0 V := hw0c.trans (hkV.mono fun k h => ltl h hw0c.size)
 have hbOc : wc.heap[N]? = some (.cells #[.bool sr, .slice la rn rc] 41 (0, 0)) := (hKc.block N (zac HB.out)).trans HB.out
 have hbO : V.heap[N]? = some (.cells #[.bool sr, .slice la rn rc] 41 (0, 0)) := (hkV.block N (zac hbOc)).trans hbOc
 have HBO : Hid (∀ Y, Kept (fun k => k < V.heap.size) V Y -> Y.heap[N]? = some (.cells #[.bool sr, .slice la rn rc] 41 (0, 0))) := fun Y hY => (hY.block N (zac hbO)).trans hbO
 have HBN : Hid (∀ Y, Kept (fun k => k < V.heap.size) V Y -> Y.heap[N7]? = some (.cells (rnC kz NM DT aa an ac up ka kn kc sw ho ct fl).toArray 46 (0, 0))) := fun Y hY => (hY.block N7 (zac hbV)).trans hbV
 have HKX : Hid (Kept (fun k => k < X.heap.size) X V) := HKW.out.trans ((hKc.trans (hkV.mono fun k h => ltl h hKc.size)).mono fun k h => ltl h HKW.out.size)
 have H0V : Hid (Kept (fun k => k < w0.heap.size) w0 V) := hw0V
 have z6 : V.cell? ⟨N7, 6, none⟩ = some (.int .i64 sw) := by rw [zaa hbV]; rfl
 have HIA : Hid (Zaf (fun q => q < w0.heap.size) wc ka (R i)) := hat.kid
 rw [hsh] at HSH
 rw [hco] at co
 clear hKc hw0c hat hkd hNM hDT han hup hsh hho hco hfl hV hN7 hkV hz7 hw0V hbOc hbV
 go_upto_region 3 with fail
 go_upto_region 4 with (refine wpList_load_mid rfl 46 _ rfl g (i * 14) rfl _ _ hr Tryz.underlying46 rfl zc5 ?_)
 rw [HN7.out, HV.out]
 clear HV HN7 hr c1 i2 i3
 go_upto_region 5 with fail
 go_cut [60] (fun v wx => v = .bool cs /\ Kept (fun k => k < V.heap.size) V wx)
 case first =>
  rcases HSH.out with ⟨e1, e2⟩ | ⟨s, hs, e1, hC, -⟩
  ·subst e1 e2
   clear hbO
   go_wp2_with fail
   go_meet
   case rel => exact ⟨rfl, Kept.refl _ _⟩
  ·subst e1
   have hs0 : (0 : Int) <= (s : Int) := by omega
   have rch := hC V H0V.out
   clear hC
   have o0 : V.cell? ⟨N, 0, none⟩ = some (.bool sr) := by rw [zaa hbO]; rfl
   have o1 : V.cell? ⟨N, 1, none⟩ = some (.slice la rn rc) := by rw [zaa hbO]; rfl
   clear hbO
   go_wp2_with fail
   refine rch.mono ?_
   rintro e w9 ⟨rfl, hK9⟩
   have HK9 : Hid (Kept (fun k => k < V.heap.size) V w9) := hK9
   clear hK9 rch
   go_wp2_with fail
   go_meet
   case rel => exact ⟨rfl, HK9.out⟩
 case rest =>
 rename World => wd
 obtain ⟨rfl, hKd⟩ := hcut
 clear z6 hbO
 have hbN := HBN.out wd hKd
 have z6 : wd.cell? ⟨N7, 6, none⟩ = some (.int .i64 sw) := by rw [zaa hbN]; rfl
 have n0 := HBO.out wd hKd
 have o0 : wd.cell? ⟨N, 0, none⟩ = some (.bool sr) := by rw [zaa n0]; rfl
 have o1 : wd.cell? ⟨N, 1, none⟩ = some (.slice la rn rc) := by rw [zaa n0]; rfl
 obtain ⟨SB, hSB⟩ : ∃ b : ByteArray, ⟨SH.toArray⟩ = b := ⟨_, rfl⟩
 have HSB : Hid ((⟨SH.toArray⟩ : ByteArray) = SB) := hSB
 have HKD1 : Hid (Kept (fun k => k < V.heap.size) V wd) := hKd
 clear hbN n0 hSB hKd
 go_upto_if 60 with fail
 go_cut [8] (fun v wx => v = .string SB /\ Kept (fun k => k < V.heap.size) V wx)
 case first =>
  rcases HSH.out with ⟨e1, e2⟩ | ⟨s, hs, e1, -, hR⟩
  ·subst e1 e2
   have e : SB = ⟨#[]⟩ := by rw [<- HSB.out, hcs rfl]
   go_wp2_with fail
   go_meet
   case rel => exact ⟨by rw [e], HKD1.out⟩
  ·subst e1
   cases cs with
   | false =>
    have e : SB = ⟨#[]⟩ := by rw [<- HSB.out, hcs rfl]
    go_wp2_with fail
    go_meet
    case rel => exact ⟨by rw [e], HKD1.out⟩
   | true =>
    have rr := hR rfl wd (H0V.out.trans (HKD1.out.mono fun k h => ltl h H0V.out.size))
    rw [HSB.out] at rr
    clear hR
    go_wp2_with fail
    refine rr.mono ?_
    rintro e w9 ⟨rfl, hK9⟩
    have HK9 : Hid (Kept (fun k => k < V.heap.size) V w9) := HKD1.out.trans (hK9.mono fun k h => ltl h HKD1.out.size)
    clear hK9 rr
    go_wp2_with fail
    go_meet
    case rel => exact ⟨rfl, HK9.out⟩
 case rest =>
 rename World => we
 obtain ⟨rfl, hKe⟩ := hcut
 clear z6 o0 o1 HSH HKD1
 have hbN := HBN.out we hKe
 have z5 : we.cell? ⟨N7, 5, none⟩ = some (.slice ka kn kc) := by rw [zaa hbN]; rfl
 have z8 : we.cell? ⟨N7, 8, none⟩ = some (.int .i64 ct) := by rw [zaa hbN]; rfl
 have z8r : ∀ n, (we.drewN n).cell? ⟨N7, 8, none⟩ = some (.int .i64 ct) := fun n => z8
 have h0e : Kept (fun k => k < w0.heap.size) w0 we := H0V.out.trans (hKe.mono fun k h => ltl h H0V.out.size)
 have HIe : Hid (Zaf (fun q => q < w0.heap.size) we ka (R i)) := (HA.out we h0e).kid
 have HKe : Hid (Kept (fun k => k < V.heap.size) V we) := hKe
 have H0e : Hid (Kept (fun k => k < w0.heap.size) w0 we) := h0e
 clear hbN hKe h0e HIA
 go_upto_if 70 with fail
 go_cut [9] (fun v wx => ∃ kb kc', v = .slice kb (R u).length kc' /\ Zaf (fun q => q < w0.heap.size) we kb (R u) /\ Kept (fun k => k < we.heap.size) we wx)
 case first =>
  rcases co with ⟨e1, e2⟩ | e1
  ·subst e1 e2
   go_wp2_with fail
   go_meet
   case rel => exact ⟨ka, kc, by rw [hkn], HIe.out, Kept.refl _ _⟩
  ·subst e1
   obtain ⟨a2, b2, kb, kc', hA2⟩ := HE.out u hu
   have hat2 := hA2 we H0e.out
   have d1 : ∀ n, (we.drewN n).cell? ⟨r, 1, none⟩ = some (.slice (some ⟨g, 0, none⟩) m nc) := fun n => by rw [<- HM.out]; exact hat2.c1
   obtain ⟨ku, hku⟩ : ∃ k, (R u).length = k := ⟨_, rfl⟩
   have d5 : ∀ n, (we.drewN n).cell? ⟨g, u * 14 + 5, none⟩ = some (.slice kb ku kc') := fun n => by rw [<- hku]; exact hat2.c 5 _ rfl
   have hum2 : (u : Int) < (m : Int) := by have := HM.out; omega
   have hu0 : (0 : Int) <= (u : Int) := by omega
   have HID : Hid (Zaf (fun q => q < w0.heap.size) we kb (R u)) := hat2.kid
   have HKU : Hid ((R u).length = ku) := hku
   clear hA2 hat2 hku
   go_upto_region 9 with fail
   go_quiet (fail)
   go_wp2_with fail
   go_meet
   case rel => exact ⟨kb, kc', by rw [HKU.out], HID.out, (Kept.refl _ we).drewN nq⟩
 case rest =>
 rename World => wf
 obtain ⟨kb, kc', rfl, hIk, hKf⟩ := hcut
 obtain ⟨ql, hql⟩ : ∃ n, (R u).length = n := ⟨_, rfl⟩
 rw [hql]
 rw [hql] at hq
 have HIk : Hid (Zaf (fun q => q < w0.heap.size) we kb (R u)) := hIk
 have HKf : Hid (Kept (fun k => k < we.heap.size) we wf) := hKf
 have HQL : Hid ((R u).length = ql) := hql
 have HS0 : Hid (SB = zmf SH O (R u) 0) := by
  show SB = _
  rw [<- HSB.out]
  unfold zmf
  rw [List.take_zero, List.flatMap_nil, List.append_nil]
 have HSZ : Hid (∀ j, (zmf SH O (R u) j).size <= 1000000000000) := fun j => ziw j hl
 have HOZ : Hid (∀ j (hj : j < (R u).length), (O (R u)[j]).length <= 1000000000000) := fun j hj => zmk hj hl
 have HKX2 : Hid (Kept (fun k => k < X.heap.size) X we) := HKX.out.trans (HKe.out.mono fun k h => ltl h HKX.out.size)
 have HBOe : Hid (∀ Y, Kept (fun k => k < we.heap.size) we Y -> Y.heap[N]? = some (.cells #[.bool sr, .slice la rn rc] 41 (0, 0))) := fun Y hY => HBO.out Y (HKe.out.trans (hY.mono fun k h => ltl h HKe.out.size))
 clear hIk hKf hql hl co z5 z8 z8r HSB HBO HBN HIe hcs HKe HKX HE HA HM H0V
 go_upto_region 12 with fail
 go_loopg [8, 10] ql (fun gm v8 v10 wr => ∃ j : Nat, gm = ql - j /\ j <= ql /\ v8 = .string (zmf SH O (R u) j) /\ v10 = .int .i64 (j : Int) /\ Kept (fun k => k < we.heap.size) we wr)
 case atStart => exact ⟨0, rfl, Nat.zero_le _, by rw [HS0.out], rfl, HKf.out⟩
 case round =>
  obtain ⟨j, hg, hj, rfl, rfl, hKr⟩ := hrel
  by_cases hlt : j < ql
  ·have hjl : j < (R u).length := by rw [HQL.out]; exact hlt
   obtain ⟨kg, ko, hka, -, d⟩ := HIk.out j hjl
   subst hka
   obtain ⟨x, hx⟩ : ∃ x, (R u)[j] = x := ⟨_, rfl⟩
   have hOc := (HKD.out _ (List.getElem_mem hjl)).2
   have hnext := zim (SH := SH) (O := O) hjl
   have hOz := HOZ.out j hjl
   rw [hx] at d hOc hnext hOz
   have hjq : (j : Int) < (ql : Int) := by omega
   have hj0 : (0 : Int) <= (j : Int) := by omega
   have hb0 := HSZ.out j
   obtain ⟨OB, hOB⟩ : ∃ b : ByteArray, ⟨(O x).toArray⟩ = b := ⟨_, rfl⟩
   have hOs : OB.size <= 1000000000000 := by rw [<- hOB]; show Array.size _ <= _; rw [List.size_toArray]; exact hOz
   obtain ⟨SJ, hSJ⟩ : ∃ b, zmf SH O (R u) j = b := ⟨_, rfl⟩
   rw [hSJ, hOB] at hnext
   rw [hSJ] at hb0 ⊢
   have HNX : Hid (SJ ++ OB = zmf SH O (R u) (j + 1)) := hnext
   have h0r : Kept (fun k => k < w0.heap.size) w0 wr := H0e.out.trans (hKr.mono fun k h => ltl h H0e.out.size)
   have hout : ∀ dd os, Calls Tryz.prog 19 #[.pointer (some ⟨r, 0, none⟩), .int .i64 (x : Int), .agg #[.bool sr, .slice la rn rc]] (grow (redrawn wr dd) os) fun e w'' => e = .returned (.string OB) /\ ∃ p : Regrown, w'' = grow (redrawn wr p.d) p.os := fun dd os => by
    have hkg : Kept (fun k => k < wr.heap.size) wr (grow (redrawn wr dd) os) := Below.kept (below_regrown wr dd os)
    have r1 := hOc (grow (redrawn wr dd) os) (h0r.trans (hkg.mono fun k h => ltl h h0r.size))
    rw [hOB] at r1
    exact Calls.regrown_of (r1.mono fun e w' h => ⟨h.1, h.2.below⟩)
   have hbO := HBOe.out wr hKr
   have y0 : wr.cell? ⟨kg, ko + j, none⟩ = some (.int .i64 (x : Int)) := by
    rw [hKr.cell (block_lt_of_cell d)]; exact d
   have o0 : wr.cell? ⟨N, 0, none⟩ = some (.bool sr) := by rw [zaa hbO]; rfl
   have o1 : wr.cell? ⟨N, 1, none⟩ = some (.slice la rn rc) := by rw [zaa hbO]; rfl
   have y0r := fun dd os => cell_regrown y0 dd os
   have o0r := fun dd os => cell_regrown o0 dd os
   have o1r := fun dd os => cell_regrown o1 dd os
   have HKr : Hid (Kept (fun k => k < we.heap.size) we wr) := hKr
   have q1 : ¬ (9223372036854775807 < SJ.size + OB.size) := by omega
   clear hnext hOz hOc d hx hSJ hOB hbO hKr h0r y0 o0 o1
   go_upto_region 13 with fail
   refine wp_region_quiet_below (by kernel_rfl) (by kernel_rfl) ?_
   repeat (go_big_quiet_step (exact hout _ _))
   refine wpQuiet_nil ?_
   intro _ hw'
   obtain ⟨⟨dq, osq⟩, hw''⟩ := hw'
   subst hw''
   go_wp2
   go_roundg (ql - (j + 1))
   case rel => exact ⟨j + 1, rfl, by omega, by rw [<- HNX.out], by go_num, HKr.out.trans ((Below.kept (below_regrown wr dq osq)).mono fun k h => ltl h HKr.out.size)⟩
   case measure => omega
  ·have hje : j = ql := by omega
   have hlast : zmf SH O (R u) j = ⟨(SH ++ (R u).flatMap O).toArray⟩ := by
    unfold zmf
    rw [List.take_of_length_le (by rw [HQL.out, hje]; exact Nat.le_refl _)]
   rw [hlast]
   have hnl : ¬ ((j : Int) < (ql : Int)) := by omega
   have hnd : decide ((j : Int) < (ql : Int)) = false := decide_eq_false hnl
   have HKr : Hid (Kept (fun k => k < we.heap.size) we wr) := hKr
   obtain ⟨OB, hOB⟩ : ∃ b : ByteArray, ⟨(SH ++ (R u).flatMap O).toArray⟩ = b := ⟨_, rfl⟩
   have HOB : Hid ((⟨(SH ++ (R u).flatMap O).toArray⟩ : ByteArray) = OB) := hOB
   rw [hOB]
   clear hje hlast hKr hOB
   go_wp2
   go_ret
   exact ⟨congrArg (fun b => Ending.returned (Value.string b)) HOB.out.symm, HKX2.out.trans (HKr.out.mono fun k h => ltl h HKX2.out.size)⟩
end
end Go.Proofs.YtikaheenjhdpmaaGreat
