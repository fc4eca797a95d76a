/-
  The document's own root, as it is written.
-/
import Derived.Test.YtikaheenjhdpmaaGreatVRa
namespace Go.Proofs.YtikaheenjhdpmaaGreat
open Go.RowKit
set_option linter.unusedVariables false
set_option maxRecDepth 100000
set_option maxHeartbeats 8000000
theorem zur (a : ByteArray) : (⟨a.toList.toArray⟩ : ByteArray) = a := by rw [ByteArray.toList_eq]
theorem zs4 (a : ByteArray) (L : List UInt8) : a ++ (⟨L.toArray⟩ : ByteArray) = ⟨(a.toList ++ L).toArray⟩ := by
 conv => lhs; rw [<- zur a]
 rw [zcd]
abbrev flC (f : Fg) : Array Value := #[.bool f.a, .bool f.b, .bool f.c, .bool f.d, .bool f.e]
theorem zm1 {w0 : World} {r : Nat} {M : Dm} {R : Nat -> List Nat} {g nc : Nat} (hE : RE w0 r M R g nc) (hn : M.n <= 100000) {sr : Bool} {la : Option Addr} {rn rc : Nat} {s : Nat} (hs : s < M.n) (T : List UInt8) (hT : T.length <= 1000000000000) (X : World) (hX : Kept (fun k => k < w0.heap.size) w0 X)
  (hI : ∀ Y, Kept (fun k => k < w0.heap.size) w0 Y -> Calls Tryz.prog 22 #[.pointer (some ⟨r, 0, none⟩), .int .i64 (s : Int), .agg #[.bool sr, .slice la rn rc]] Y fun e w' => e = .returned (.string ⟨T.toArray⟩) /\ Kept (fun k => k < Y.heap.size) Y w') :
  Calls Tryz.prog 64 #[.pointer (some ⟨r, 0, none⟩), .int .i64 (s : Int), .agg #[.bool sr, .slice la rn rc]] X fun e w' => e = .returned (.string ⟨(zdi zbp (flA (M.nd s).fl) ++ (T ++ zdm zbp)).toArray⟩) /\ Kept (fun k => k < X.heap.size) X w' := by
 obtain ⟨aa, ac, ka, kc, hA⟩ := hE s hs
 obtain ⟨W, N, hW, hN, hb, hkW, hz⟩ := zae X #[.bool sr, .slice la rn rc] 41
 have hwW : Kept (fun k => k < w0.heap.size) w0 W := hX.trans (hkW.mono fun k h => ltl h hX.size)
 have hat := hA W hwW
 have c1 := hat.c1
 obtain ⟨fl, hfl⟩ : ∃ f, (M.nd s).fl = f := ⟨_, rfl⟩
 have hr : W.rangeAt g (s * 14 + 9) [.bool fl.a, .bool fl.b, .bool fl.c, .bool fl.d, .bool fl.e] := fun j v hv => by
  rw [Nat.add_assoc]
  refine hat.c (9 + j) v ?_
  rw [<- hv, <- hfl]
  match j with
  | 0 => rfl
  | 1 => rfl
  | 2 => rfl
  | 3 => rfl
  | 4 => rfl
  | j + 5 =>
   rw [List.getElem?_eq_none (by rw [zeu]; omega), List.getElem?_eq_none (by simp)]
 obtain ⟨V, N7, hV, hN7, hbV, hkV, hz7⟩ := zae W (flC fl) 44
 have hwV : Kept (fun k => k < w0.heap.size) w0 V := hwW.trans (hkV.mono fun k h => ltl h hwW.size)
 have hbO : V.heap[N]? = some (.cells #[.bool sr, .slice la rn rc] 41 (0, 0)) := (hkV.block N (zac hb)).trans hb
 have hin := hI V hwV
 obtain ⟨TB, hTB⟩ : ∃ b : ByteArray, ⟨T.toArray⟩ = b := ⟨_, rfl⟩
 rw [hTB] at hin
 have hTs : TB.size <= 1000000000000 := by rw [<- hTB]; show T.toArray.size <= _; rw [List.size_toArray]; exact hT
 obtain ⟨m, hm⟩ : ∃ m, M.n = m := ⟨_, rfl⟩
 rw [hm] at c1 hs hn
 have HW : Hid (X.alloc (.cells #[.bool sr, .slice la rn rc] 41) = W) := hW
 have HN : Hid (X.heap.size = N) := hN
 have HN7 : Hid (W.heap.size = N7) := hN7
 have HV : Hid (W.alloc (.cells (flC fl) 44) = V) := hV
 have HKV : Hid (Kept (fun k => k < X.heap.size) X V) := hkW.trans (hkV.mono fun k h => ltl h hkW.size)
 rw [hfl]
 have HE : Hid ((⟨(zdi zbp (flA fl) ++ (T ++ zdm zbp)).toArray⟩ : ByteArray) = (((wFs (wFs (wFs (wFs (wF0 fl.a) fl.c zlp) fl.d zl4) fl.b zlv) fl.e zl0) ++ ⟨#[62]⟩) ++ TB) ++ ⟨#[60, 47, 116, 101, 109, 112, 108, 97, 116, 101, 62]⟩) := by
  rw [<- hTB, zs4 _ T, ztu, zcd]
  congr 2
  rw [List.append_assoc]
  rfl
 obtain ⟨res, hres⟩ : ∃ b, (⟨(zdi zbp (flA fl) ++ (T ++ zdm zbp)).toArray⟩ : ByteArray) = b := ⟨_, rfl⟩
 rw [hres] at HE ⊢
 have z0 : V.cell? ⟨N7, 0, none⟩ = some (.bool fl.a) := by rw [zaa hbV]; rfl
 have z1 : V.cell? ⟨N7, 1, none⟩ = some (.bool fl.b) := by rw [zaa hbV]; rfl
 have z2 : V.cell? ⟨N7, 2, none⟩ = some (.bool fl.c) := by rw [zaa hbV]; rfl
 have z3 : V.cell? ⟨N7, 3, none⟩ = some (.bool fl.d) := by rw [zaa hbV]; rfl
 have z4 : V.cell? ⟨N7, 4, none⟩ = some (.bool fl.e) := by rw [zaa hbV]; rfl
 clear hE hX hI hA hW hN hb hkW hz hwW hat hN7 hz7 hV hkV hwV hbV hTB hm hfl hres
 obtain ⟨fa, fb, fc, fd, fe⟩ := fl
 dsimp only at z0 z1 z2 z3 z4 HE hr HV
 go_enter Tryz.func64, Tryz.ntmps64
 go_upto_region 1 with fail
 rw [HW.out, HN.out]
 clear HW HN
 go_upto_region 2 with (refine wpList_load_mid rfl 44 _ rfl g (s * 14 + 9) rfl _ _ hr Tryz.underlying44 rfl (zuc (flC ⟨fa, fb, fc, fd, fe⟩) rfl) ?_)
 rw [HN7.out]
 have HV2 : Hid (W.alloc (.cells #[.bool fa, .bool fb, .bool fc, .bool fd, .bool fe] 44) = V) := HV.out
 rw [HV2.out]
 clear HV HV2 HN7 hr c1
 obtain ⟨s0, hs0⟩ : ∃ s, wF0 fa = s := ⟨_, rfl⟩
 obtain ⟨s1, hs1⟩ : ∃ s, wFs s0 fc zlp = s := ⟨_, rfl⟩
 obtain ⟨s2, hs2⟩ : ∃ s, wFs s1 fd zl4 = s := ⟨_, rfl⟩
 obtain ⟨s3, hs3⟩ : ∃ s, wFs s2 fb zlv = s := ⟨_, rfl⟩
 obtain ⟨s4, hs4⟩ : ∃ s, wFs s3 fe zl0 = s := ⟨_, rfl⟩
 rw [hs0, hs1, hs2, hs3, hs4] at HE
 have b0 : s0.size <= 40 := by rw [<- hs0]; cases fa <;> decide
 have b1 : s1.size <= 80 := by rw [<- hs1]; exact zfk (a := _) (b := 40) (by omega) (by decide)
 have b2 : s2.size <= 120 := by rw [<- hs2]; exact zfk (a := _) (b := 40) (by omega) (by decide)
 have b3 : s3.size <= 160 := by rw [<- hs3]; exact zfk (a := _) (b := 40) (by omega) (by decide)
 have b4 : s4.size <= 200 := by rw [<- hs4]; exact zfk (a := _) (b := 40) (by omega) (by decide)
 have H0 : Hid (wF0 fa = s0) := hs0
 have H1 : Hid (wFs s0 fc zlp = s1) := hs1
 have H2 : Hid (wFs s1 fd zl4 = s2) := hs2
 have H3 : Hid (wFs s2 fb zlv = s3) := hs3
 have H4 : Hid (wFs s3 fe zl0 = s4) := hs4
 have HIN : Hid (Calls Tryz.prog 22 #[.pointer (some ⟨r, 0, none⟩), .int .i64 (s : Int), .agg #[.bool sr, .slice la rn rc]] V fun e w' => e = .returned (.string TB) /\ Kept (fun k => k < V.heap.size) V w') := hin
 have HBO : Hid (V.heap[N]? = some (.cells #[.bool sr, .slice la rn rc] 41 (0, 0))) := hbO
 clear hs0 hs1 hs2 hs3 hs4 hin hbO
 go_upto_if 18 with fail
 go_cut [8] (fun v wx => v = .string s0 /\ wx = V)
 case first =>
  cases fa with
  | true =>
   have e : s0 = ⟨#[60, 116, 101, 109, 112, 108, 97, 116, 101, 32, 115, 104, 97, 100, 111, 119, 114, 111, 111, 116, 109, 111, 100, 101, 61, 34, 99, 108, 111, 115, 101, 100, 34]⟩ := H0.out.symm
   go_wp2_with fail
   go_meet
   case rel => exact ⟨by rw [e], rfl⟩
  | false =>
   have e : s0 = ⟨#[60, 116, 101, 109, 112, 108, 97, 116, 101, 32, 115, 104, 97, 100, 111, 119, 114, 111, 111, 116, 109, 111, 100, 101, 61, 34, 111, 112, 101, 110, 34]⟩ := H0.out.symm
   go_wp2_with fail
   go_meet
   case rel => exact ⟨by rw [e], rfl⟩
 case rest =>
 obtain ⟨rfl, hwc⟩ := hcut
 subst hwc
 clear H0
 go_upto_if 20 with fail
 go_cut [8] (fun v wx => v = .string s1 /\ wx = wc)
 case first =>
  cases fc with
  | true =>
   have e : s1 = s0 ++ zlp := H1.out.symm
   unfold zlp at e
   go_wp2_with fail
   go_meet
   case rel => exact ⟨by rw [e], rfl⟩
  | false =>
   have e : s1 = s0 := H1.out.symm
   go_wp2_with fail
   go_meet
   case rel => exact ⟨by rw [e], rfl⟩
 case rest =>
 rename World => wk
 obtain ⟨rfl, hwc⟩ := hcut
 subst hwc
 clear H1
 rename World => wc
 go_upto_if 24 with fail
 go_cut [8] (fun v wx => v = .string s2 /\ wx = wc)
 case first =>
  cases fd with
  | true =>
   have e : s2 = s1 ++ zl4 := H2.out.symm
   unfold zl4 at e
   go_wp2_with fail
   go_meet
   case rel => exact ⟨by rw [e], rfl⟩
  | false =>
   have e : s2 = s1 := H2.out.symm
   go_wp2_with fail
   go_meet
   case rel => exact ⟨by rw [e], rfl⟩
 case rest =>
 rename World => wk
 obtain ⟨rfl, hwc⟩ := hcut
 subst hwc
 clear H2
 rename World => wc
 go_upto_if 28 with fail
 go_cut [8] (fun v wx => v = .string s3 /\ wx = wc)
 case first =>
  cases fb with
  | true =>
   have e : s3 = s2 ++ zlv := H3.out.symm
   unfold zlv at e
   go_wp2_with fail
   go_meet
   case rel => exact ⟨by rw [e], rfl⟩
  | false =>
   have e : s3 = s2 := H3.out.symm
   go_wp2_with fail
   go_meet
   case rel => exact ⟨by rw [e], rfl⟩
 case rest =>
 rename World => wk
 obtain ⟨rfl, hwc⟩ := hcut
 subst hwc
 clear H3
 rename World => wc
 go_upto_if 32 with fail
 go_cut [8] (fun v wx => v = .string s4 /\ wx = wc)
 case first =>
  cases fe with
  | true =>
   have e : s4 = s3 ++ zl0 := H4.out.symm
   unfold zl0 at e
   go_wp2_with fail
   go_meet
   case rel => exact ⟨by rw [e], rfl⟩
  | false =>
   have e : s4 = s3 := H4.out.symm
   go_wp2_with fail
   go_meet
   case rel => exact ⟨by rw [e], rfl⟩
 case rest =>
 rename World => wk
 obtain ⟨rfl, hwc⟩ := hcut
 subst hwc
 clear H4
 rename World => wc
 have hbO := HBO.out
 have hin := HIN.out
 clear z0 z1 z2 z3 z4 HBO HIN
 go_wp2_with (refine wpList_load_row rfl 41 _ rfl N rfl 41 #[.bool sr, .slice la rn rc] (0, 0) _ hbO Tryz.underlying41 rfl (zmt _ rfl) ?_)
 refine hin.mono ?_
 rintro e w9 ⟨rfl, hK9⟩
 have HK9 : Hid (Kept (fun k => k < X.heap.size) X w9) := HKV.out.trans (hK9.mono fun k h => ltl h HKV.out.size)
 clear hin hK9 hbO
 go_wp2
 go_ret
 exact ⟨by rw [HE.out]; rfl, HK9.out⟩
end Go.Proofs.YtikaheenjhdpmaaGreat
