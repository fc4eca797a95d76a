/-
  The document's own pair: are two nodes alike?
-/
import Derived.Test.YtfeinppedejlpaaGreatVSd
namespace Go.Proofs.YtfeinppedejlpaaGreat
open Go.RowKit Go.Sort
set_option linter.unusedVariables false
set_option maxRecDepth 100000
set_option maxHeartbeats 8000000
section
variable {M M' : Dm} {R R' : Nat -> List Nat} {w0 : World} {r q g nc g' nc' : Nat}
theorem zpw (hE : RE w0 r M R g nc) (hE' : RE w0 q M' R' g' nc') (hn : M.n <= 100000) (hn' : M'.n <= 100000) (s t : Nat) (hs : s < M.n) (ht : t < M'.n) (hl : (M.nd s).attrs.length <= 1000000) (hl' : (M'.nd t).attrs.length <= 1000000)
  (h : (M.nd s).kind ≠ (M'.nd t).kind \/ (M.nd s).name ≠ (M'.nd t).name \/ (M.nd s).data ≠ (M'.nd t).data \/ (M.nd s).attrs ≠ (M'.nd t).attrs) (X : World) (hX : Kept (fun k => k < w0.heap.size) w0 X) :
  Calls Tryz.prog 145 #[.pointer (some ⟨r, 0, none⟩), .int .i64 (s : Int), .pointer (some ⟨q, 0, none⟩), .int .i64 (t : Int)] X fun e w' => e = .returned (.bool (false)) /\ Kept (fun k => k < X.heap.size) X w' := by
 obtain ⟨aa, ac, ka, kc, hA⟩ := hE s hs
 obtain ⟨aa', ac', ka', kc', hA'⟩ := hE' t ht
 have hr := (hA X hX).range
 have c1 := (hA X hX).c1
 obtain ⟨kz, hkz⟩ : ∃ x, (((M.nd s).kind : Nat) : Int) = x := ⟨_, rfl⟩
 obtain ⟨NM, hNM⟩ : ∃ x, (⟨(M.nd s).name.toArray⟩ : ByteArray) = x := ⟨_, rfl⟩
 obtain ⟨DT, hDT⟩ : ∃ x, (⟨(M.nd s).data.toArray⟩ : ByteArray) = x := ⟨_, rfl⟩
 obtain ⟨an, han⟩ : ∃ x, (M.nd s).attrs.length = x := ⟨_, rfl⟩
 obtain ⟨up, hup⟩ : ∃ x, (M.pl s).up = x := ⟨_, rfl⟩
 obtain ⟨kn, hkn⟩ : ∃ x, (R s).length = x := ⟨_, rfl⟩
 obtain ⟨sh, hsh⟩ : ∃ x, (M.nd s).shadow = x := ⟨_, rfl⟩
 obtain ⟨ho, hho⟩ : ∃ x, (M.nd s).host = x := ⟨_, rfl⟩
 obtain ⟨co, hco⟩ : ∃ x, (M.nd s).content = x := ⟨_, rfl⟩
 obtain ⟨fl, hfl⟩ : ∃ x, (M.nd s).fl = x := ⟨_, rfl⟩
 obtain ⟨kz', hkz'⟩ : ∃ x, (((M'.nd t).kind : Nat) : Int) = x := ⟨_, rfl⟩
 obtain ⟨NM', hNM'⟩ : ∃ x, (⟨(M'.nd t).name.toArray⟩ : ByteArray) = x := ⟨_, rfl⟩
 obtain ⟨DT', hDT'⟩ : ∃ x, (⟨(M'.nd t).data.toArray⟩ : ByteArray) = x := ⟨_, rfl⟩
 obtain ⟨an', han'⟩ : ∃ x, (M'.nd t).attrs.length = x := ⟨_, rfl⟩
 obtain ⟨up', hup'⟩ : ∃ x, (M'.pl t).up = x := ⟨_, rfl⟩
 obtain ⟨kn', hkn'⟩ : ∃ x, (R' t).length = x := ⟨_, rfl⟩
 obtain ⟨sh', hsh'⟩ : ∃ x, (M'.nd t).shadow = x := ⟨_, rfl⟩
 obtain ⟨ho', hho'⟩ : ∃ x, (M'.nd t).host = x := ⟨_, rfl⟩
 obtain ⟨co', hco'⟩ : ∃ x, (M'.nd t).content = x := ⟨_, rfl⟩
 obtain ⟨fl', hfl'⟩ : ∃ x, (M'.nd t).fl = x := ⟨_, rfl⟩
 obtain ⟨m, hm⟩ : ∃ m, M.n = m := ⟨_, rfl⟩
 obtain ⟨m', hm'⟩ : ∃ m, M'.n = m := ⟨_, rfl⟩
 rw [hkz, hNM, hDT, han, hup, hkn, hsh, hho, hco, hfl] at hr
 rw [hm] at c1
 obtain ⟨V, N, hV, hN, hbV, hkV, hzV⟩ := zal X (rnC kz NM DT aa an ac up ka kn kc sh ho co fl).toArray 58
 have h0V : Kept (fun k => k < w0.heap.size) w0 V := kt hX hkV
 have hr' := (hA' V h0V).range
 have d1 := (hA' V h0V).c1
 rw [hkz', hNM', hDT', han', hup', hkn', hsh', hho', hco', hfl'] at hr'
 rw [hm'] at d1
 obtain ⟨U, N', hU, hN', hbU, hkU, hzU⟩ := zal V (rnC kz' NM' DT' aa' an' ac' up' ka' kn' kc' sh' ho' co' fl').toArray 58
 have h0U : Kept (fun k => k < w0.heap.size) w0 U := kt h0V hkU
 have hkXU : Kept (fun k => k < X.heap.size) X U := kt hkV hkU
 have hbN : U.heap[N]? = _ := (hkU.block N (zad hbV)).trans hbV
 have HN : Hid (X.heap.size = N) := hN
 have HV : Hid (X.alloc (.cells #[.int .u8 kz, .string NM, .string DT, .slice aa an ac, .int .i64 up, .slice ka kn kc, .int .i64 sh, .int .i64 ho, .int .i64 co, .bool fl.a, .bool fl.b, .bool fl.c, .bool fl.d, .bool fl.e] 58) = V) := hV
 have HN' : Hid (V.heap.size = N') := hN'
 have HU : Hid (V.alloc (.cells #[.int .u8 kz', .string NM', .string DT', .slice aa' an' ac', .int .i64 up', .slice ka' kn' kc', .int .i64 sh', .int .i64 ho', .int .i64 co', .bool fl'.a, .bool fl'.b, .bool fl'.c, .bool fl'.d, .bool fl'.e] 58) = U) := hU
 have HKU : Hid (Kept (fun k => k < X.heap.size) X U) := hkXU
 have H0U : Hid (Kept (fun k => k < w0.heap.size) w0 U) := h0U
 have HBN : Hid (∀ Y, Kept (fun k => k < U.heap.size) U Y -> Y.heap[N]? = some (.cells (rnC kz NM DT aa an ac up ka kn kc sh ho co fl).toArray 58 (0, 0))) := fun Y hY => (hY.block N (zad hbN)).trans hbN
 have HBN' : Hid (∀ Y, Kept (fun k => k < U.heap.size) U Y -> Y.heap[N']? = some (.cells (rnC kz' NM' DT' aa' an' ac' up' ka' kn' kc' sh' ho' co' fl').toArray 58 (0, 0))) := fun Y hY => (hY.block N' (zad hbU)).trans hbU
 have him : (s : Int) < (m : Int) := by rw [<- hm]; omega
 have him' : (t : Int) < (m' : Int) := by rw [<- hm']; omega
 have hi0 : (0 : Int) <= (s : Int) := by omega
 have hi0' : (0 : Int) <= (t : Int) := by omega
 have hsm : s < m := by omega
 have htm : t < m' := by omega
 have hm5 : m <= 100000 := by rw [<- hm]; exact hn
 have hm5' : m' <= 100000 := by rw [<- hm']; exact hn'
 have y0 : U.cell? ⟨N, 0, none⟩ = some (.int .u8 kz) := by rw [zaa hbN]; rfl
 have x0 : U.cell? ⟨N', 0, none⟩ = some (.int .u8 kz') := by rw [zaa hbU]; rfl
 have y1 : U.cell? ⟨N, 1, none⟩ = some (.string NM) := by rw [zaa hbN]; rfl
 have x1 : U.cell? ⟨N', 1, none⟩ = some (.string NM') := by rw [zaa hbU]; rfl
 have y2 : U.cell? ⟨N, 2, none⟩ = some (.string DT) := by rw [zaa hbN]; rfl
 have x2 : U.cell? ⟨N', 2, none⟩ = some (.string DT') := by rw [zaa hbU]; rfl
 have y3 : U.cell? ⟨N, 3, none⟩ = some (.slice aa an ac) := by rw [zaa hbN]; rfl
 have x3 : U.cell? ⟨N', 3, none⟩ = some (.slice aa' an' ac') := by rw [zaa hbU]; rfl
 have y6 : U.cell? ⟨N, 6, none⟩ = some (.int .i64 sh) := by rw [zaa hbN]; rfl
 have x6 : U.cell? ⟨N', 6, none⟩ = some (.int .i64 sh') := by rw [zaa hbU]; rfl
 have y8 : U.cell? ⟨N, 8, none⟩ = some (.int .i64 co) := by rw [zaa hbN]; rfl
 have x8 : U.cell? ⟨N', 8, none⟩ = some (.int .i64 co') := by rw [zaa hbU]; rfl
 have HAA : Hid (Zag (fun k => k < U.heap.size) U aa (M.nd s).attrs) := (hA U h0U).ats.to (fun k h => ltl h h0U.size) (fun k h => rfl)
 have HAA' : Hid (Zag (fun k => k < U.heap.size) U aa' (M'.nd t).attrs) := (hA' U h0U).ats.to (fun k h => ltl h h0U.size) (fun k h => rfl)
 have HLN : Hid ((M.nd s).attrs.length = an) := han
 have HLN' : Hid ((M'.nd t).attrs.length = an') := han'
 by_cases e0 : (M.nd s).kind = (M'.nd t).kind
 ·have hkk : kz = kz' := by rw [<- hkz, <- hkz', e0]
  by_cases e1 : (M.nd s).name = (M'.nd t).name
  ·have hnn : NM = NM' := by rw [<- hNM, <- hNM', e1]
   by_cases e2 : (M.nd s).data = (M'.nd t).data
   ·have hdd : DT = DT' := by rw [<- hDT, <- hDT', e2]
    have e3 : (M.nd s).attrs ≠ (M'.nd t).attrs := ((h.resolve_left fun c => c e0).resolve_left fun c => c e1).resolve_left fun c => c e2
    have rs := zb7 _ _ aa aa' an an' ac ac' HLN.out HLN'.out false ⟨fun h => (by cases h), fun h => absurd h e3⟩ (by rw [<- HLN.out]; exact hl) (by rw [<- HLN'.out]; exact hl') U HAA.out HAA'.out
    subst hkk hnn hdd
    clear hE hE' hX hA hA' hV hN hbV hkV hzV h0V hU hN' hbU hkU hzU h0U hkXU hbN hm hm' hs ht hn hn' hup hup' hkn hkn' hho hho' e0 e1 e2 e3 h hl hl' hkz hkz' hNM hNM' hDT hDT' han han' hsh hsh' hco hco' hfl hfl' HAA HAA' HLN HLN'
    go_enter Tryz.func145, Tryz.ntmps145
    go_upto_region 2 with (refine wpList_load_mid rfl 58 _ rfl g (s * 14) rfl _ _ hr Tryz.underlying58 rfl zbq ?_)
    rw [HV.out, HN.out]
    clear HV HN hr c1
    go_upto_region 3 with (refine wpList_load_mid rfl 58 _ rfl g' (t * 14) rfl _ _ hr' Tryz.underlying58 rfl zbq ?_)
    rw [HU.out, HN'.out]
    clear HU HN' hr' d1
    go_wp2_with fail
    refine rs.mono ?_
    rintro e w1 ⟨rfl, hK⟩
    have HK : Hid (Kept (fun k => k < X.heap.size) X w1) := kt HKU.out hK
    clear hK rs
    go_wp2
    go_ret
    exact ⟨rfl, HK.out⟩
   ·have n2 : (DT.toList == DT'.toList) = false := by
     rw [beq_eq_false_iff_ne, <- hDT, <- hDT', lis, lis]; exact e2
    subst hkk hnn
    clear hE hE' hX hA hA' hV hN hbV hkV hzV h0V hU hN' hbU hkU hzU h0U hkXU hbN hm hm' hs ht hn hn' hup hup' hkn hkn' hho hho' e0 e1 e2 h hl hl' hkz hkz' hNM hNM' hDT hDT' han han' hsh hsh' hco hco' hfl hfl' HAA HAA' HLN HLN'
    go_enter Tryz.func145, Tryz.ntmps145
    go_upto_region 2 with (refine wpList_load_mid rfl 58 _ rfl g (s * 14) rfl _ _ hr Tryz.underlying58 rfl zbq ?_)
    rw [HV.out, HN.out]
    clear HV HN hr c1
    go_upto_region 3 with (refine wpList_load_mid rfl 58 _ rfl g' (t * 14) rfl _ _ hr' Tryz.underlying58 rfl zbq ?_)
    rw [HU.out, HN'.out]
    clear HU HN' hr' d1
    go_wp2
    go_ret
    exact ⟨rfl, HKU.out⟩
  ·have n1 : (NM.toList == NM'.toList) = false := by
    rw [beq_eq_false_iff_ne, <- hNM, <- hNM', lis, lis]; exact e1
   subst hkk
   clear hE hE' hX hA hA' hV hN hbV hkV hzV h0V hU hN' hbU hkU hzU h0U hkXU hbN hm hm' hs ht hn hn' hup hup' hkn hkn' hho hho' e0 e1 h hl hl' hkz hkz' hNM hNM' hDT hDT' han han' hsh hsh' hco hco' hfl hfl' HAA HAA' HLN HLN'
   go_enter Tryz.func145, Tryz.ntmps145
   go_upto_region 2 with (refine wpList_load_mid rfl 58 _ rfl g (s * 14) rfl _ _ hr Tryz.underlying58 rfl zbq ?_)
   rw [HV.out, HN.out]
   clear HV HN hr c1
   go_upto_region 3 with (refine wpList_load_mid rfl 58 _ rfl g' (t * 14) rfl _ _ hr' Tryz.underlying58 rfl zbq ?_)
   rw [HU.out, HN'.out]
   clear HU HN' hr' d1
   go_wp2
   go_ret
   exact ⟨rfl, HKU.out⟩
 ·have n0 : (kz == kz') = false := by rw [beq_eq_false_iff_ne, <- hkz, <- hkz']; omega
  have n0' : (kz != kz') = true := by rw [bne, n0]; rfl
  clear hE hE' hX hA hA' hV hN hbV hkV hzV h0V hU hN' hbU hkU hzU h0U hkXU hbN hm hm' hs ht hn hn' hup hup' hkn hkn' hho hho' e0 h hl hl' hkz hkz' hNM hNM' hDT hDT' han han' hsh hsh' hco hco' hfl hfl' HAA HAA' HLN HLN'
  go_enter Tryz.func145, Tryz.ntmps145
  go_upto_region 2 with (refine wpList_load_mid rfl 58 _ rfl g (s * 14) rfl _ _ hr Tryz.underlying58 rfl zbq ?_)
  rw [HV.out, HN.out]
  clear HV HN hr c1
  go_upto_region 3 with (refine wpList_load_mid rfl 58 _ rfl g' (t * 14) rfl _ _ hr' Tryz.underlying58 rfl zbq ?_)
  rw [HU.out, HN'.out]
  clear HU HN' hr' d1
  go_wp2
  go_ret
  exact ⟨rfl, HKU.out⟩
theorem zl2 (hE : RE w0 r M R g nc) (hE' : RE w0 q M' R' g' nc') (hn : M.n <= 100000) (hn' : M'.n <= 100000) (s t : Nat) (hs : s < M.n) (ht : t < M'.n) (hl : (M.nd s).attrs.length <= 1000000) (hl' : (M'.nd t).attrs.length <= 1000000) (e0 : (M.nd s).kind = (M'.nd t).kind) (e1 : (M.nd s).name = (M'.nd t).name) (e2 : (M.nd s).data = (M'.nd t).data) (e3 : (M.nd s).attrs = (M'.nd t).attrs)
  (hz : (M.nd s).shadow < 0 \/ (M'.nd t).shadow < 0) (bS bC bK : Bool)
  (hS : ∀ V, Kept (fun k => k < w0.heap.size) w0 V -> Calls Tryz.prog 222 #[.pointer (some ⟨r, 0, none⟩), .int .i64 (M.nd s).shadow, .pointer (some ⟨q, 0, none⟩), .int .i64 (M'.nd t).shadow] V fun e w' => e = .returned (.bool bS) /\ Kept (fun k => k < V.heap.size) V w')
  (hC : ∀ V, Kept (fun k => k < w0.heap.size) w0 V -> Calls Tryz.prog 222 #[.pointer (some ⟨r, 0, none⟩), .int .i64 (M.nd s).content, .pointer (some ⟨q, 0, none⟩), .int .i64 (M'.nd t).content] V fun e w' => e = .returned (.bool bC) /\ Kept (fun k => k < V.heap.size) V w')
  (hK : ∀ V, Kept (fun k => k < w0.heap.size) w0 V -> Calls Tryz.prog 67 #[.pointer (some ⟨r, 0, none⟩), .int .i64 (s : Int), .pointer (some ⟨q, 0, none⟩), .int .i64 (t : Int)] V fun e w' => e = .returned (.bool bK) /\ Kept (fun k => k < V.heap.size) V w') (X : World) (hX : Kept (fun k => k < w0.heap.size) w0 X) :
  Calls Tryz.prog 145 #[.pointer (some ⟨r, 0, none⟩), .int .i64 (s : Int), .pointer (some ⟨q, 0, none⟩), .int .i64 (t : Int)] X fun e w' => e = .returned (.bool (bS && (bC && bK))) /\ Kept (fun k => k < X.heap.size) X w' := by
 obtain ⟨aa, ac, ka, kc, hA⟩ := hE s hs
 obtain ⟨aa', ac', ka', kc', hA'⟩ := hE' t ht
 have hr := (hA X hX).range
 have c1 := (hA X hX).c1
 obtain ⟨kz, hkz⟩ : ∃ x, (((M.nd s).kind : Nat) : Int) = x := ⟨_, rfl⟩
 obtain ⟨NM, hNM⟩ : ∃ x, (⟨(M.nd s).name.toArray⟩ : ByteArray) = x := ⟨_, rfl⟩
 obtain ⟨DT, hDT⟩ : ∃ x, (⟨(M.nd s).data.toArray⟩ : ByteArray) = x := ⟨_, rfl⟩
 obtain ⟨an, han⟩ : ∃ x, (M.nd s).attrs.length = x := ⟨_, rfl⟩
 obtain ⟨up, hup⟩ : ∃ x, (M.pl s).up = x := ⟨_, rfl⟩
 obtain ⟨kn, hkn⟩ : ∃ x, (R s).length = x := ⟨_, rfl⟩
 obtain ⟨sh, hsh⟩ : ∃ x, (M.nd s).shadow = x := ⟨_, rfl⟩
 obtain ⟨ho, hho⟩ : ∃ x, (M.nd s).host = x := ⟨_, rfl⟩
 obtain ⟨co, hco⟩ : ∃ x, (M.nd s).content = x := ⟨_, rfl⟩
 obtain ⟨fl, hfl⟩ : ∃ x, (M.nd s).fl = x := ⟨_, rfl⟩
 obtain ⟨kz', hkz'⟩ : ∃ x, (((M'.nd t).kind : Nat) : Int) = x := ⟨_, rfl⟩
 obtain ⟨NM', hNM'⟩ : ∃ x, (⟨(M'.nd t).name.toArray⟩ : ByteArray) = x := ⟨_, rfl⟩
 obtain ⟨DT', hDT'⟩ : ∃ x, (⟨(M'.nd t).data.toArray⟩ : ByteArray) = x := ⟨_, rfl⟩
 obtain ⟨an', han'⟩ : ∃ x, (M'.nd t).attrs.length = x := ⟨_, rfl⟩
 obtain ⟨up', hup'⟩ : ∃ x, (M'.pl t).up = x := ⟨_, rfl⟩
 obtain ⟨kn', hkn'⟩ : ∃ x, (R' t).length = x := ⟨_, rfl⟩
 obtain ⟨sh', hsh'⟩ : ∃ x, (M'.nd t).shadow = x := ⟨_, rfl⟩
 obtain ⟨ho', hho'⟩ : ∃ x, (M'.nd t).host = x := ⟨_, rfl⟩
 obtain ⟨co', hco'⟩ : ∃ x, (M'.nd t).content = x := ⟨_, rfl⟩
 obtain ⟨fl', hfl'⟩ : ∃ x, (M'.nd t).fl = x := ⟨_, rfl⟩
 obtain ⟨m, hm⟩ : ∃ m, M.n = m := ⟨_, rfl⟩
 obtain ⟨m', hm'⟩ : ∃ m, M'.n = m := ⟨_, rfl⟩
 rw [hkz, hNM, hDT, han, hup, hkn, hsh, hho, hco, hfl] at hr
 rw [hm] at c1
 obtain ⟨V, N, hV, hN, hbV, hkV, hzV⟩ := zal X (rnC kz NM DT aa an ac up ka kn kc sh ho co fl).toArray 58
 have h0V : Kept (fun k => k < w0.heap.size) w0 V := kt hX hkV
 have hr' := (hA' V h0V).range
 have d1 := (hA' V h0V).c1
 rw [hkz', hNM', hDT', han', hup', hkn', hsh', hho', hco', hfl'] at hr'
 rw [hm'] at d1
 obtain ⟨U, N', hU, hN', hbU, hkU, hzU⟩ := zal V (rnC kz' NM' DT' aa' an' ac' up' ka' kn' kc' sh' ho' co' fl').toArray 58
 have h0U : Kept (fun k => k < w0.heap.size) w0 U := kt h0V hkU
 have hkXU : Kept (fun k => k < X.heap.size) X U := kt hkV hkU
 have hbN : U.heap[N]? = _ := (hkU.block N (zad hbV)).trans hbV
 have HN : Hid (X.heap.size = N) := hN
 have HV : Hid (X.alloc (.cells #[.int .u8 kz, .string NM, .string DT, .slice aa an ac, .int .i64 up, .slice ka kn kc, .int .i64 sh, .int .i64 ho, .int .i64 co, .bool fl.a, .bool fl.b, .bool fl.c, .bool fl.d, .bool fl.e] 58) = V) := hV
 have HN' : Hid (V.heap.size = N') := hN'
 have HU : Hid (V.alloc (.cells #[.int .u8 kz', .string NM', .string DT', .slice aa' an' ac', .int .i64 up', .slice ka' kn' kc', .int .i64 sh', .int .i64 ho', .int .i64 co', .bool fl'.a, .bool fl'.b, .bool fl'.c, .bool fl'.d, .bool fl'.e] 58) = U) := hU
 have HKU : Hid (Kept (fun k => k < X.heap.size) X U) := hkXU
 have H0U : Hid (Kept (fun k => k < w0.heap.size) w0 U) := h0U
 have HBN : Hid (∀ Y, Kept (fun k => k < U.heap.size) U Y -> Y.heap[N]? = some (.cells (rnC kz NM DT aa an ac up ka kn kc sh ho co fl).toArray 58 (0, 0))) := fun Y hY => (hY.block N (zad hbN)).trans hbN
 have HBN' : Hid (∀ Y, Kept (fun k => k < U.heap.size) U Y -> Y.heap[N']? = some (.cells (rnC kz' NM' DT' aa' an' ac' up' ka' kn' kc' sh' ho' co' fl').toArray 58 (0, 0))) := fun Y hY => (hY.block N' (zad hbU)).trans hbU
 have him : (s : Int) < (m : Int) := by rw [<- hm]; omega
 have him' : (t : Int) < (m' : Int) := by rw [<- hm']; omega
 have hi0 : (0 : Int) <= (s : Int) := by omega
 have hi0' : (0 : Int) <= (t : Int) := by omega
 have hsm : s < m := by omega
 have htm : t < m' := by omega
 have hm5 : m <= 100000 := by rw [<- hm]; exact hn
 have hm5' : m' <= 100000 := by rw [<- hm']; exact hn'
 have y0 : U.cell? ⟨N, 0, none⟩ = some (.int .u8 kz) := by rw [zaa hbN]; rfl
 have x0 : U.cell? ⟨N', 0, none⟩ = some (.int .u8 kz') := by rw [zaa hbU]; rfl
 have y1 : U.cell? ⟨N, 1, none⟩ = some (.string NM) := by rw [zaa hbN]; rfl
 have x1 : U.cell? ⟨N', 1, none⟩ = some (.string NM') := by rw [zaa hbU]; rfl
 have y2 : U.cell? ⟨N, 2, none⟩ = some (.string DT) := by rw [zaa hbN]; rfl
 have x2 : U.cell? ⟨N', 2, none⟩ = some (.string DT') := by rw [zaa hbU]; rfl
 have y3 : U.cell? ⟨N, 3, none⟩ = some (.slice aa an ac) := by rw [zaa hbN]; rfl
 have x3 : U.cell? ⟨N', 3, none⟩ = some (.slice aa' an' ac') := by rw [zaa hbU]; rfl
 have y6 : U.cell? ⟨N, 6, none⟩ = some (.int .i64 sh) := by rw [zaa hbN]; rfl
 have x6 : U.cell? ⟨N', 6, none⟩ = some (.int .i64 sh') := by rw [zaa hbU]; rfl
 have y8 : U.cell? ⟨N, 8, none⟩ = some (.int .i64 co) := by rw [zaa hbN]; rfl
 have x8 : U.cell? ⟨N', 8, none⟩ = some (.int .i64 co') := by rw [zaa hbU]; rfl
 have HAA : Hid (Zag (fun k => k < U.heap.size) U aa (M.nd s).attrs) := (hA U h0U).ats.to (fun k h => ltl h h0U.size) (fun k h => rfl)
 have HAA' : Hid (Zag (fun k => k < U.heap.size) U aa' (M'.nd t).attrs) := (hA' U h0U).ats.to (fun k h => ltl h h0U.size) (fun k h => rfl)
 have HLN : Hid ((M.nd s).attrs.length = an) := han
 have HLN' : Hid ((M'.nd t).attrs.length = an') := han'
 have hkk : kz = kz' := by rw [<- hkz, <- hkz', e0]
 have hnn : NM = NM' := by rw [<- hNM, <- hNM', e1]
 have hdd : DT = DT' := by rw [<- hDT, <- hDT', e2]
 have rs := zb7 _ _ aa aa' an an' ac ac' HLN.out HLN'.out true ⟨fun _ => e3, fun _ => rfl⟩ (by rw [<- HLN.out]; exact hl) (by rw [<- HLN'.out]; exact hl') U HAA.out HAA'.out
 subst hkk hnn hdd
 rw [hsh, hsh'] at hz
 rw [hsh, hsh'] at hS
 rw [hco, hco'] at hC
 have HS : Hid (∀ V, Kept (fun k => k < w0.heap.size) w0 V -> Calls Tryz.prog 222 #[.pointer (some ⟨r, 0, none⟩), .int .i64 sh, .pointer (some ⟨q, 0, none⟩), .int .i64 sh'] V fun e w' => e = .returned (.bool bS) /\ Kept (fun k => k < V.heap.size) V w') := hS
 have HC : Hid (∀ V, Kept (fun k => k < w0.heap.size) w0 V -> Calls Tryz.prog 222 #[.pointer (some ⟨r, 0, none⟩), .int .i64 co, .pointer (some ⟨q, 0, none⟩), .int .i64 co'] V fun e w' => e = .returned (.bool bC) /\ Kept (fun k => k < V.heap.size) V w') := hC
 have HK : Hid (∀ V, Kept (fun k => k < w0.heap.size) w0 V -> Calls Tryz.prog 67 #[.pointer (some ⟨r, 0, none⟩), .int .i64 (s : Int), .pointer (some ⟨q, 0, none⟩), .int .i64 (t : Int)] V fun e w' => e = .returned (.bool bK) /\ Kept (fun k => k < V.heap.size) V w') := hK
 clear hE hE' hX hA hA' hV hN hbV hkV hzV h0V hU hN' hbU hkU hzU h0U hkXU hbN hm hm' hs ht hn hn' hup hup' hkn hkn' hho hho' e0 e1 e2 e3 hl hl' hkz hkz' hNM hNM' hDT hDT' han han' hsh hsh' hco hco' hfl hfl' HAA HAA' HLN HLN' hS hC hK
 go_enter Tryz.func145, Tryz.ntmps145
 go_upto_region 2 with (refine wpList_load_mid rfl 58 _ rfl g (s * 14) rfl _ _ hr Tryz.underlying58 rfl zbq ?_)
 rw [HV.out, HN.out]
 clear HV HN hr c1
 go_upto_region 3 with (refine wpList_load_mid rfl 58 _ rfl g' (t * 14) rfl _ _ hr' Tryz.underlying58 rfl zbq ?_)
 rw [HU.out, HN'.out]
 clear HU HN' hr' d1
 go_wp2_with fail
 refine rs.mono ?_
 rintro e w1 ⟨rfl, hK1⟩
 have HK1 : Hid (Kept (fun k => k < U.heap.size) U w1) := hK1
 have v6 : ∀ n, (w1.drewN n).cell? ⟨N, 6, none⟩ = some (.int .i64 sh) := fun n => by rw [zaa (HBN.out _ (hK1.drewN n))]; rfl
 have u6 : ∀ n, (w1.drewN n).cell? ⟨N', 6, none⟩ = some (.int .i64 sh') := fun n => by rw [zaa (HBN'.out _ (hK1.drewN n))]; rfl
 clear hK1 rs y0 x0 y1 x1 y2 x2 y3 x3 y6 x6 y8 x8
 go_upto_region 5 with fail
 by_cases z1 : sh < 0
 ·have b1 : decide ((0 : Int) <= sh) = false := decide_eq_false (by omega)
  go_quiet (fail)
  clear v6 u6 b1 z1 hz
  have h0Y : Kept (fun k => k < w0.heap.size) w0 (w1.drewN nq) := H0U.out.trans ((HK1.out.drewN nq).mono fun k h => ltl h H0U.out.size)
  have hUY : Kept (fun k => k < U.heap.size) U (w1.drewN nq) := HK1.out.drewN nq
  obtain ⟨Y1, hY1⟩ : ∃ Y, w1.drewN nq = Y := ⟨_, rfl⟩
  rw [hY1] at h0Y hUY ⊢
  have v6 : Y1.cell? ⟨N, 6, none⟩ = some (.int .i64 sh) := by rw [zaa (HBN.out Y1 hUY)]; rfl
  have u6 : Y1.cell? ⟨N', 6, none⟩ = some (.int .i64 sh') := by rw [zaa (HBN'.out Y1 hUY)]; rfl
  have r1 := HS.out Y1 h0Y
  have HUY : Hid (Kept (fun k => k < U.heap.size) U Y1) := hUY
  clear hY1 h0Y hUY
  go_wp2_with fail
  refine r1.mono ?_
  rintro e w2 ⟨rfl, hk2⟩
  have HU2 : Hid (Kept (fun k => k < U.heap.size) U w2) := kt HUY.out hk2
  clear hk2 r1 v6 u6 HS HUY
  cases bS with
  | false =>
   go_wp2
   go_ret
   exact ⟨rfl, kt HKU.out HU2.out⟩
  | true =>
   have h02 : Kept (fun k => k < w0.heap.size) w0 w2 := kt H0U.out HU2.out
   have v8 : w2.cell? ⟨N, 8, none⟩ = some (.int .i64 co) := by rw [zaa (HBN.out w2 HU2.out)]; rfl
   have u8 : w2.cell? ⟨N', 8, none⟩ = some (.int .i64 co') := by rw [zaa (HBN'.out w2 HU2.out)]; rfl
   have r2 := HC.out w2 h02
   clear h02 HC
   go_wp2_with fail
   refine r2.mono ?_
   rintro e w3 ⟨rfl, hk3⟩
   have HU3 : Hid (Kept (fun k => k < U.heap.size) U w3) := kt HU2.out hk3
   clear hk3 r2 v8 u8 HU2
   cases bC with
   | false =>
    go_wp2
    go_ret
    exact ⟨rfl, kt HKU.out HU3.out⟩
   | true =>
    have h03 : Kept (fun k => k < w0.heap.size) w0 w3 := kt H0U.out HU3.out
    have r3 := HK.out w3 h03
    clear h03 HK
    go_wp2_with fail
    refine r3.mono ?_
    rintro e w4 ⟨rfl, hk4⟩
    have HU4 : Hid (Kept (fun k => k < U.heap.size) U w4) := kt HU3.out hk4
    clear hk4 r3 HU3
    go_wp2
    go_ret
    exact ⟨rfl, kt HKU.out HU4.out⟩
 ·have b1 : decide ((0 : Int) <= sh) = true := decide_eq_true (by omega)
  have b2 : decide ((0 : Int) <= sh') = false := decide_eq_false (by have := hz.resolve_left z1; omega)
  go_quiet (fail)
  clear v6 u6 b1 b2 z1 hz
  have h0Y : Kept (fun k => k < w0.heap.size) w0 (w1.drewN nq) := H0U.out.trans ((HK1.out.drewN nq).mono fun k h => ltl h H0U.out.size)
  have hUY : Kept (fun k => k < U.heap.size) U (w1.drewN nq) := HK1.out.drewN nq
  obtain ⟨Y1, hY1⟩ : ∃ Y, w1.drewN nq = Y := ⟨_, rfl⟩
  rw [hY1] at h0Y hUY ⊢
  have v6 : Y1.cell? ⟨N, 6, none⟩ = some (.int .i64 sh) := by rw [zaa (HBN.out Y1 hUY)]; rfl
  have u6 : Y1.cell? ⟨N', 6, none⟩ = some (.int .i64 sh') := by rw [zaa (HBN'.out Y1 hUY)]; rfl
  have r1 := HS.out Y1 h0Y
  have HUY : Hid (Kept (fun k => k < U.heap.size) U Y1) := hUY
  clear hY1 h0Y hUY
  go_wp2_with fail
  refine r1.mono ?_
  rintro e w2 ⟨rfl, hk2⟩
  have HU2 : Hid (Kept (fun k => k < U.heap.size) U w2) := kt HUY.out hk2
  clear hk2 r1 v6 u6 HS HUY
  cases bS with
  | false =>
   go_wp2
   go_ret
   exact ⟨rfl, kt HKU.out HU2.out⟩
  | true =>
   have h02 : Kept (fun k => k < w0.heap.size) w0 w2 := kt H0U.out HU2.out
   have v8 : w2.cell? ⟨N, 8, none⟩ = some (.int .i64 co) := by rw [zaa (HBN.out w2 HU2.out)]; rfl
   have u8 : w2.cell? ⟨N', 8, none⟩ = some (.int .i64 co') := by rw [zaa (HBN'.out w2 HU2.out)]; rfl
   have r2 := HC.out w2 h02
   clear h02 HC
   go_wp2_with fail
   refine r2.mono ?_
   rintro e w3 ⟨rfl, hk3⟩
   have HU3 : Hid (Kept (fun k => k < U.heap.size) U w3) := kt HU2.out hk3
   clear hk3 r2 v8 u8 HU2
   cases bC with
   | false =>
    go_wp2
    go_ret
    exact ⟨rfl, kt HKU.out HU3.out⟩
   | true =>
    have h03 : Kept (fun k => k < w0.heap.size) w0 w3 := kt H0U.out HU3.out
    have r3 := HK.out w3 h03
    clear h03 HK
    go_wp2_with fail
    refine r3.mono ?_
    rintro e w4 ⟨rfl, hk4⟩
    have HU4 : Hid (Kept (fun k => k < U.heap.size) U w4) := kt HU3.out hk4
    clear hk4 r3 HU3
    go_wp2
    go_ret
    exact ⟨rfl, kt HKU.out HU4.out⟩
theorem zuz (a b : Fg) (X : World) : (binOp .neq 48 (fgV a) (fgV b)).run Tryz.prog X = .ok (.bool (!fgB a b)) X := by
 have hS : Tryz.prog.underlying 48 = some (.struct (Tryz.prog.fieldsOf 48)) := by kernel_rfl
 have hp : Tryz.prog.stoodInHeld 48 = false := by kernel_rfl
 have u4 := Tryz.underlying4
 have z4 : Tryz.prog.cellsOf 4 = 1 := by kernel_rfl
 obtain ⟨a1, a2, a3, a4, a5⟩ := a
 obtain ⟨b1, b2, b3, b4, b5⟩ := b
 show (binOp .neq 48 (.agg #[.bool a1, .bool a2, .bool a3, .bool a4, .bool a5]) (.agg #[.bool b1, .bool b2, .bool b3, .bool b4, .bool b5])).run Tryz.prog X = _
 rw [run_neq_struct, show (10000 : Nat) = 9999 + 1 from rfl, run_equalIn_agg X 9999 48 _ _ hS hp]
 simp only [Program.fieldsOf, Tryz.underlying48]
 go_simp
 cases a1 <;> cases a2 <;> cases a3 <;> cases a4 <;> cases a5 <;> cases b1 <;> cases b2 <;> cases b3 <;> cases b4 <;> cases b5 <;> rfl
theorem RAt.flags {M : Dm} {R : Nat -> List Nat} {r g nc i : Nat} {aa : Option Addr} {ac : Nat} {ka : Option Addr} {kc N : Nat} {Y : World} (h : RAt M R r g nc i aa ac ka kc N Y) : Y.rangeAt g (i * 14 + 9) (flC (M.nd i).fl).toList := by
 intro j v hj
 rw [Nat.add_assoc]
 refine h.c (9 + j) v ?_
 rw [<- hj]
 match j with
 | 0 | 1 | 2 | 3 | 4 => rfl
 | k + 5 => rw [show 9 + (k + 5) = k + 14 by omega]; rfl
theorem zog (hE : RE w0 r M R g nc) (hE' : RE w0 q M' R' g' nc') (hn : M.n <= 100000) (hn' : M'.n <= 100000) (s t : Nat) (hs : s < M.n) (ht : t < M'.n) (hl : (M.nd s).attrs.length <= 1000000) (hl' : (M'.nd t).attrs.length <= 1000000) (e0 : (M.nd s).kind = (M'.nd t).kind) (e1 : (M.nd s).name = (M'.nd t).name) (e2 : (M.nd s).data = (M'.nd t).data) (e3 : (M.nd s).attrs = (M'.nd t).attrs)
  (u v : Nat) (hu : u < M.n) (hv : v < M'.n) (hzu : (M.nd s).shadow = (u : Int)) (hzv : (M'.nd t).shadow = (v : Int)) (bS bC bK : Bool)
  (hS : ∀ V, Kept (fun k => k < w0.heap.size) w0 V -> Calls Tryz.prog 222 #[.pointer (some ⟨r, 0, none⟩), .int .i64 (M.nd s).shadow, .pointer (some ⟨q, 0, none⟩), .int .i64 (M'.nd t).shadow] V fun e w' => e = .returned (.bool bS) /\ Kept (fun k => k < V.heap.size) V w')
  (hC : ∀ V, Kept (fun k => k < w0.heap.size) w0 V -> Calls Tryz.prog 222 #[.pointer (some ⟨r, 0, none⟩), .int .i64 (M.nd s).content, .pointer (some ⟨q, 0, none⟩), .int .i64 (M'.nd t).content] V fun e w' => e = .returned (.bool bC) /\ Kept (fun k => k < V.heap.size) V w')
  (hK : ∀ V, Kept (fun k => k < w0.heap.size) w0 V -> Calls Tryz.prog 67 #[.pointer (some ⟨r, 0, none⟩), .int .i64 (s : Int), .pointer (some ⟨q, 0, none⟩), .int .i64 (t : Int)] V fun e w' => e = .returned (.bool bK) /\ Kept (fun k => k < V.heap.size) V w') (X : World) (hX : Kept (fun k => k < w0.heap.size) w0 X) :
  Calls Tryz.prog 145 #[.pointer (some ⟨r, 0, none⟩), .int .i64 (s : Int), .pointer (some ⟨q, 0, none⟩), .int .i64 (t : Int)] X fun e w' => e = .returned (.bool (fgB (M.nd u).fl (M'.nd v).fl && (bS && (bC && bK)))) /\ Kept (fun k => k < X.heap.size) X w' := by
 obtain ⟨qa, qb, qc, qd, hQ⟩ := hE u hu
 obtain ⟨qa', qb', qc', qd', hQ'⟩ := hE' v hv
 have HF : Hid (∀ Y, Kept (fun k => k < w0.heap.size) w0 Y -> Y.rangeAt g (u * 14 + 9) (flC (M.nd u).fl).toList) := fun Y hY => (hQ Y hY).flags
 have HF' : Hid (∀ Y, Kept (fun k => k < w0.heap.size) w0 Y -> Y.rangeAt g' (v * 14 + 9) (flC (M'.nd v).fl).toList) := fun Y hY => (hQ' Y hY).flags
 have HC1 : Hid (∀ Y, Kept (fun k => k < w0.heap.size) w0 Y -> Y.cell? ⟨r, 1, none⟩ = some (.slice (some ⟨g, 0, none⟩) M.n nc)) := fun Y hY => (hQ Y hY).c1
 have HD1 : Hid (∀ Y, Kept (fun k => k < w0.heap.size) w0 Y -> Y.cell? ⟨q, 1, none⟩ = some (.slice (some ⟨g', 0, none⟩) M'.n nc')) := fun Y hY => (hQ' Y hY).c1
 obtain ⟨fu, hfu⟩ : ∃ f, (M.nd u).fl = f := ⟨_, rfl⟩
 obtain ⟨fv, hfv⟩ : ∃ f, (M'.nd v).fl = f := ⟨_, rfl⟩
 rw [hfu] at HF ⊢
 rw [hfv] at HF' ⊢
 obtain ⟨fb, hfb⟩ : ∃ b, fgB fu fv = b := ⟨_, rfl⟩
 have HFB : Hid (fgB fu fv = fb) := hfb
 rw [hfb]
 clear hQ hQ' hfu hfv hfb
 obtain ⟨aa, ac, ka, kc, hA⟩ := hE s hs
 obtain ⟨aa', ac', ka', kc', hA'⟩ := hE' t ht
 have hr := (hA X hX).range
 have c1 := (hA X hX).c1
 obtain ⟨kz, hkz⟩ : ∃ x, (((M.nd s).kind : Nat) : Int) = x := ⟨_, rfl⟩
 obtain ⟨NM, hNM⟩ : ∃ x, (⟨(M.nd s).name.toArray⟩ : ByteArray) = x := ⟨_, rfl⟩
 obtain ⟨DT, hDT⟩ : ∃ x, (⟨(M.nd s).data.toArray⟩ : ByteArray) = x := ⟨_, rfl⟩
 obtain ⟨an, han⟩ : ∃ x, (M.nd s).attrs.length = x := ⟨_, rfl⟩
 obtain ⟨up, hup⟩ : ∃ x, (M.pl s).up = x := ⟨_, rfl⟩
 obtain ⟨kn, hkn⟩ : ∃ x, (R s).length = x := ⟨_, rfl⟩
 obtain ⟨sh, hsh⟩ : ∃ x, (M.nd s).shadow = x := ⟨_, rfl⟩
 obtain ⟨ho, hho⟩ : ∃ x, (M.nd s).host = x := ⟨_, rfl⟩
 obtain ⟨co, hco⟩ : ∃ x, (M.nd s).content = x := ⟨_, rfl⟩
 obtain ⟨fl, hfl⟩ : ∃ x, (M.nd s).fl = x := ⟨_, rfl⟩
 obtain ⟨kz', hkz'⟩ : ∃ x, (((M'.nd t).kind : Nat) : Int) = x := ⟨_, rfl⟩
 obtain ⟨NM', hNM'⟩ : ∃ x, (⟨(M'.nd t).name.toArray⟩ : ByteArray) = x := ⟨_, rfl⟩
 obtain ⟨DT', hDT'⟩ : ∃ x, (⟨(M'.nd t).data.toArray⟩ : ByteArray) = x := ⟨_, rfl⟩
 obtain ⟨an', han'⟩ : ∃ x, (M'.nd t).attrs.length = x := ⟨_, rfl⟩
 obtain ⟨up', hup'⟩ : ∃ x, (M'.pl t).up = x := ⟨_, rfl⟩
 obtain ⟨kn', hkn'⟩ : ∃ x, (R' t).length = x := ⟨_, rfl⟩
 obtain ⟨sh', hsh'⟩ : ∃ x, (M'.nd t).shadow = x := ⟨_, rfl⟩
 obtain ⟨ho', hho'⟩ : ∃ x, (M'.nd t).host = x := ⟨_, rfl⟩
 obtain ⟨co', hco'⟩ : ∃ x, (M'.nd t).content = x := ⟨_, rfl⟩
 obtain ⟨fl', hfl'⟩ : ∃ x, (M'.nd t).fl = x := ⟨_, rfl⟩
 obtain ⟨m, hm⟩ : ∃ m, M.n = m := ⟨_, rfl⟩
 obtain ⟨m', hm'⟩ : ∃ m, M'.n = m := ⟨_, rfl⟩
 rw [hkz, hNM, hDT, han, hup, hkn, hsh, hho, hco, hfl] at hr
 rw [hm] at c1
 obtain ⟨V, N, hV, hN, hbV, hkV, hzV⟩ := zal X (rnC kz NM DT aa an ac up ka kn kc sh ho co fl).toArray 58
 have h0V : Kept (fun k => k < w0.heap.size) w0 V := kt hX hkV
 have hr' := (hA' V h0V).range
 have d1 := (hA' V h0V).c1
 rw [hkz', hNM', hDT', han', hup', hkn', hsh', hho', hco', hfl'] at hr'
 rw [hm'] at d1
 obtain ⟨U, N', hU, hN', hbU, hkU, hzU⟩ := zal V (rnC kz' NM' DT' aa' an' ac' up' ka' kn' kc' sh' ho' co' fl').toArray 58
 have h0U : Kept (fun k => k < w0.heap.size) w0 U := kt h0V hkU
 have hkXU : Kept (fun k => k < X.heap.size) X U := kt hkV hkU
 have hbN : U.heap[N]? = _ := (hkU.block N (zad hbV)).trans hbV
 have HN : Hid (X.heap.size = N) := hN
 have HV : Hid (X.alloc (.cells #[.int .u8 kz, .string NM, .string DT, .slice aa an ac, .int .i64 up, .slice ka kn kc, .int .i64 sh, .int .i64 ho, .int .i64 co, .bool fl.a, .bool fl.b, .bool fl.c, .bool fl.d, .bool fl.e] 58) = V) := hV
 have HN' : Hid (V.heap.size = N') := hN'
 have HU : Hid (V.alloc (.cells #[.int .u8 kz', .string NM', .string DT', .slice aa' an' ac', .int .i64 up', .slice ka' kn' kc', .int .i64 sh', .int .i64 ho', .int .i64 co', .bool fl'.a, .bool fl'.b, .bool fl'.c, .bool fl'.d, .bool fl'.e] 58) = U) := hU
 have HKU : Hid (Kept (fun k => k < X.heap.size) X U) := hkXU
 have H0U : Hid (Kept (fun k => k < w0.heap.size) w0 U) := h0U
 have HBN : Hid (∀ Y, Kept (fun k => k < U.heap.size) U Y -> Y.heap[N]? = some (.cells (rnC kz NM DT aa an ac up ka kn kc sh ho co fl).toArray 58 (0, 0))) := fun Y hY => (hY.block N (zad hbN)).trans hbN
 have HBN' : Hid (∀ Y, Kept (fun k => k < U.heap.size) U Y -> Y.heap[N']? = some (.cells (rnC kz' NM' DT' aa' an' ac' up' ka' kn' kc' sh' ho' co' fl').toArray 58 (0, 0))) := fun Y hY => (hY.block N' (zad hbU)).trans hbU
 have him : (s : Int) < (m : Int) := by rw [<- hm]; omega
 have him' : (t : Int) < (m' : Int) := by rw [<- hm']; omega
 have hi0 : (0 : Int) <= (s : Int) := by omega
 have hi0' : (0 : Int) <= (t : Int) := by omega
 have hsm : s < m := by omega
 have htm : t < m' := by omega
 have hm5 : m <= 100000 := by rw [<- hm]; exact hn
 have hm5' : m' <= 100000 := by rw [<- hm']; exact hn'
 have y0 : U.cell? ⟨N, 0, none⟩ = some (.int .u8 kz) := by rw [zaa hbN]; rfl
 have x0 : U.cell? ⟨N', 0, none⟩ = some (.int .u8 kz') := by rw [zaa hbU]; rfl
 have y1 : U.cell? ⟨N, 1, none⟩ = some (.string NM) := by rw [zaa hbN]; rfl
 have x1 : U.cell? ⟨N', 1, none⟩ = some (.string NM') := by rw [zaa hbU]; rfl
 have y2 : U.cell? ⟨N, 2, none⟩ = some (.string DT) := by rw [zaa hbN]; rfl
 have x2 : U.cell? ⟨N', 2, none⟩ = some (.string DT') := by rw [zaa hbU]; rfl
 have y3 : U.cell? ⟨N, 3, none⟩ = some (.slice aa an ac) := by rw [zaa hbN]; rfl
 have x3 : U.cell? ⟨N', 3, none⟩ = some (.slice aa' an' ac') := by rw [zaa hbU]; rfl
 have y6 : U.cell? ⟨N, 6, none⟩ = some (.int .i64 sh) := by rw [zaa hbN]; rfl
 have x6 : U.cell? ⟨N', 6, none⟩ = some (.int .i64 sh') := by rw [zaa hbU]; rfl
 have y8 : U.cell? ⟨N, 8, none⟩ = some (.int .i64 co) := by rw [zaa hbN]; rfl
 have x8 : U.cell? ⟨N', 8, none⟩ = some (.int .i64 co') := by rw [zaa hbU]; rfl
 have HAA : Hid (Zag (fun k => k < U.heap.size) U aa (M.nd s).attrs) := (hA U h0U).ats.to (fun k h => ltl h h0U.size) (fun k h => rfl)
 have HAA' : Hid (Zag (fun k => k < U.heap.size) U aa' (M'.nd t).attrs) := (hA' U h0U).ats.to (fun k h => ltl h h0U.size) (fun k h => rfl)
 have HLN : Hid ((M.nd s).attrs.length = an) := han
 have HLN' : Hid ((M'.nd t).attrs.length = an') := han'
 have hkk : kz = kz' := by rw [<- hkz, <- hkz', e0]
 have hnn : NM = NM' := by rw [<- hNM, <- hNM', e1]
 have hdd : DT = DT' := by rw [<- hDT, <- hDT', e2]
 have rs := zb7 _ _ aa aa' an an' ac ac' HLN.out HLN'.out true ⟨fun _ => e3, fun _ => rfl⟩ (by rw [<- HLN.out]; exact hl) (by rw [<- HLN'.out]; exact hl') U HAA.out HAA'.out
 subst hkk hnn hdd
 rw [hsh] at hzu
 rw [hsh'] at hzv
 rw [hm] at HC1 hu
 rw [hm'] at HD1 hv
 rw [hsh, hsh'] at hS
 rw [hco, hco'] at hC
 have HS : Hid (∀ V, Kept (fun k => k < w0.heap.size) w0 V -> Calls Tryz.prog 222 #[.pointer (some ⟨r, 0, none⟩), .int .i64 sh, .pointer (some ⟨q, 0, none⟩), .int .i64 sh'] V fun e w' => e = .returned (.bool bS) /\ Kept (fun k => k < V.heap.size) V w') := hS
 have HC : Hid (∀ V, Kept (fun k => k < w0.heap.size) w0 V -> Calls Tryz.prog 222 #[.pointer (some ⟨r, 0, none⟩), .int .i64 co, .pointer (some ⟨q, 0, none⟩), .int .i64 co'] V fun e w' => e = .returned (.bool bC) /\ Kept (fun k => k < V.heap.size) V w') := hC
 have HK : Hid (∀ V, Kept (fun k => k < w0.heap.size) w0 V -> Calls Tryz.prog 67 #[.pointer (some ⟨r, 0, none⟩), .int .i64 (s : Int), .pointer (some ⟨q, 0, none⟩), .int .i64 (t : Int)] V fun e w' => e = .returned (.bool bK) /\ Kept (fun k => k < V.heap.size) V w') := hK
 clear hE hE' hX hA hA' hV hN hbV hkV hzV h0V hU hN' hbU hkU hzU h0U hkXU hbN hm hm' hs ht hn hn' hup hup' hkn hkn' hho hho' e0 e1 e2 e3 hl hl' hkz hkz' hNM hNM' hDT hDT' han han' hsh hsh' hco hco' hfl hfl' HAA HAA' HLN HLN' hS hC hK
 subst hzu hzv
 go_enter Tryz.func145, Tryz.ntmps145
 go_upto_region 2 with (refine wpList_load_mid rfl 58 _ rfl g (s * 14) rfl _ _ hr Tryz.underlying58 rfl zbq ?_)
 rw [HV.out, HN.out]
 clear HV HN hr c1
 go_upto_region 3 with (refine wpList_load_mid rfl 58 _ rfl g' (t * 14) rfl _ _ hr' Tryz.underlying58 rfl zbq ?_)
 rw [HU.out, HN'.out]
 clear HU HN' hr' d1
 go_wp2_with fail
 refine rs.mono ?_
 rintro e w1 ⟨rfl, hK1⟩
 have HK1 : Hid (Kept (fun k => k < U.heap.size) U w1) := hK1
 have v6 : ∀ n, (w1.drewN n).cell? ⟨N, 6, none⟩ = some (.int .i64 (u : Int)) := fun n => by rw [zaa (HBN.out _ (hK1.drewN n))]; rfl
 have u6 : ∀ n, (w1.drewN n).cell? ⟨N', 6, none⟩ = some (.int .i64 (v : Int)) := fun n => by rw [zaa (HBN'.out _ (hK1.drewN n))]; rfl
 clear hK1 rs y0 x0 y1 x1 y2 x2 y3 x3 y6 x6 y8 x8
 have h01 : Kept (fun k => k < w0.heap.size) w0 w1 := kt H0U.out HK1.out
 have f1 : ∀ n, (w1.drewN n).cell? ⟨r, 1, none⟩ = some (.slice (some ⟨g, 0, none⟩) m nc) := fun n => HC1.out _ (h01.drewN n)
 have f2 : ∀ n, (w1.drewN n).cell? ⟨q, 1, none⟩ = some (.slice (some ⟨g', 0, none⟩) m' nc') := fun n => HD1.out _ (h01.drewN n)
 have p0 : w1.cell? ⟨g, u * 14 + 9, none⟩ = some (.bool fu.a) := HF.out _ h01 0 _ rfl
 have p1 : w1.cell? ⟨g, u * 14 + 9 + 1, none⟩ = some (.bool fu.b) := HF.out _ h01 1 _ rfl
 have p2 : w1.cell? ⟨g, u * 14 + 9 + 2, none⟩ = some (.bool fu.c) := HF.out _ h01 2 _ rfl
 have p3 : w1.cell? ⟨g, u * 14 + 9 + 3, none⟩ = some (.bool fu.d) := HF.out _ h01 3 _ rfl
 have p4 : w1.cell? ⟨g, u * 14 + 9 + 4, none⟩ = some (.bool fu.e) := HF.out _ h01 4 _ rfl
 have o0 : w1.cell? ⟨g', v * 14 + 9, none⟩ = some (.bool fv.a) := HF'.out _ h01 0 _ rfl
 have o1 : w1.cell? ⟨g', v * 14 + 9 + 1, none⟩ = some (.bool fv.b) := HF'.out _ h01 1 _ rfl
 have o2 : w1.cell? ⟨g', v * 14 + 9 + 2, none⟩ = some (.bool fv.c) := HF'.out _ h01 2 _ rfl
 have o3 : w1.cell? ⟨g', v * 14 + 9 + 3, none⟩ = some (.bool fv.d) := HF'.out _ h01 3 _ rfl
 have o4 : w1.cell? ⟨g', v * 14 + 9 + 4, none⟩ = some (.bool fv.e) := HF'.out _ h01 4 _ rfl
 have b1 : decide ((0 : Int) <= (u : Int)) = true := decide_eq_true (by omega)
 have b2 : decide ((0 : Int) <= (v : Int)) = true := decide_eq_true (by omega)
 have ui : (u : Int) < (m : Int) := by omega
 have vi : (v : Int) < (m' : Int) := by omega
 have u0 : (0 : Int) <= (u : Int) := by omega
 have v0 : (0 : Int) <= (v : Int) := by omega
 have hneq : ∀ Y, (binOp .neq 48 (.agg #[.bool fu.a, .bool fu.b, .bool fu.c, .bool fu.d, .bool fu.e]) (.agg #[.bool fv.a, .bool fv.b, .bool fv.c, .bool fv.d, .bool fv.e])).run Tryz.prog Y = .ok (.bool (!fb)) Y := fun Y => by rw [<- HFB.out]; exact zuz fu fv Y
 have g44 := zur
 clear h01 HFB HF HF' HC1 HD1
 go_upto_region 5 with fail
 cases fb with
 | false =>
  go_quiet (fail)
  go_wp2
  go_ret
  exact ⟨rfl, HKU.out.trans ((HK1.out.drewN nq).mono fun k h => ltl h HKU.out.size)⟩
 | true =>
  go_quiet (fail)
  clear f1 f2 p0 p1 p2 p3 p4 o0 o1 o2 o3 o4 v6 u6 b1 b2 hneq
  have h0Y : Kept (fun k => k < w0.heap.size) w0 (w1.drewN nq) := H0U.out.trans ((HK1.out.drewN nq).mono fun k h => ltl h H0U.out.size)
  have hUY : Kept (fun k => k < U.heap.size) U (w1.drewN nq) := HK1.out.drewN nq
  obtain ⟨Y1, hY1⟩ : ∃ Y, w1.drewN nq = Y := ⟨_, rfl⟩
  rw [hY1] at h0Y hUY ⊢
  have v6 : Y1.cell? ⟨N, 6, none⟩ = some (.int .i64 (u : Int)) := by rw [zaa (HBN.out Y1 hUY)]; rfl
  have u6 : Y1.cell? ⟨N', 6, none⟩ = some (.int .i64 (v : Int)) := by rw [zaa (HBN'.out Y1 hUY)]; rfl
  have r1 := HS.out Y1 h0Y
  have HUY : Hid (Kept (fun k => k < U.heap.size) U Y1) := hUY
  clear hY1 h0Y hUY
  go_wp2_with fail
  refine r1.mono ?_
  rintro e w2 ⟨rfl, hk2⟩
  have HU2 : Hid (Kept (fun k => k < U.heap.size) U w2) := kt HUY.out hk2
  clear hk2 r1 v6 u6 HS HUY
  cases bS with
  | false =>
   go_wp2
   go_ret
   exact ⟨rfl, kt HKU.out HU2.out⟩
  | true =>
   have h02 : Kept (fun k => k < w0.heap.size) w0 w2 := kt H0U.out HU2.out
   have v8 : w2.cell? ⟨N, 8, none⟩ = some (.int .i64 co) := by rw [zaa (HBN.out w2 HU2.out)]; rfl
   have u8 : w2.cell? ⟨N', 8, none⟩ = some (.int .i64 co') := by rw [zaa (HBN'.out w2 HU2.out)]; rfl
   have r2 := HC.out w2 h02
   clear h02 HC
   go_wp2_with fail
   refine r2.mono ?_
   rintro e w3 ⟨rfl, hk3⟩
   have HU3 : Hid (Kept (fun k => k < U.heap.size) U w3) := kt HU2.out hk3
   clear hk3 r2 v8 u8 HU2
   cases bC with
   | false =>
    go_wp2
    go_ret
    exact ⟨rfl, kt HKU.out HU3.out⟩
   | true =>
    have h03 : Kept (fun k => k < w0.heap.size) w0 w3 := kt H0U.out HU3.out
    have r3 := HK.out w3 h03
    clear h03 HK
    go_wp2_with fail
    refine r3.mono ?_
    rintro e w4 ⟨rfl, hk4⟩
    have HU4 : Hid (Kept (fun k => k < U.heap.size) U w4) := kt HU3.out hk4
    clear hk4 r3 HU3
    go_wp2
    go_ret
    exact ⟨rfl, kt HKU.out HU4.out⟩
end
end Go.Proofs.YtfeinppedejlpaaGreat
