/-
  The document's own Stable: a node.
-/
import Derived.Test.YtfeinppedejlpaaGreatVU3m
import Derived.Test.YtfeinppedejlpaaGreatVNam
namespace Go.Proofs.YtfeinppedejlpaaGreat
open Go.RowKit Go.Sort
set_option linter.unusedVariables false
set_option maxRecDepth 100000
set_option maxHeartbeats 8000000
theorem zr8 (l : List UInt8) : (!l.any s3B) = (!l.any (· == 45) && (!l.any (· == 62) && !l.any (· == 0))) := by
 induction l with
 | nil => rfl
 | cons a l ih =>
  have h1 : (!(a :: l).any s3B) = (!s3B a && !l.any s3B) := by rw [List.any_cons, Bool.not_or]
  rw [h1, ih, List.any_cons, List.any_cons, List.any_cons]
  unfold s3B
  cases (a == 45) <;> cases (a == 62) <;> cases (a == 0) <;> simp
structure SzN (x : Nd) : Prop where
 nm : x.kind = 1 -> x.name.length < 1000
 dt : x.data.length < 1000000
 at_ : ∀ a ∈ x.attrs, a.value.length < 1000000
 few : x.attrs.length <= 100000
section
variable {w0 : World} {r : Nat} {M : Dm} {R : Nat -> List Nat} {g nc k : Nat}
theorem zgu (hE : RE w0 r M R g nc) (hn : M.n <= 100000) (hi : k < M.n) (hS : SzN (M.nd k)) (hk : (M.nd k).kind = 5) (X : World) (hX : Kept (fun k => k < w0.heap.size) w0 X) :
  Calls Tryz.prog 143 #[.pointer (some ⟨r, 0, none⟩), .int .i64 (k : Int)] X fun e w' => e = .returned (.bool (!(M.nd k).fl.b)) /\ Kept (fun k => k < X.heap.size) X w' := by
 obtain ⟨aa, ac, ka, kc, hA⟩ := hE k hi
 have hat := hA X hX
 have c1 := hat.c1
 have hr := hat.range
 obtain ⟨kz, hkd⟩ : ∃ k' : Int, ((M.nd k).kind : Int) = k' := ⟨_, rfl⟩
 obtain ⟨NM, hNM⟩ : ∃ k' : ByteArray, ⟨(M.nd k).name.toArray⟩ = k' := ⟨_, rfl⟩
 obtain ⟨DT, hDT⟩ : ∃ k' : ByteArray, ⟨(M.nd k).data.toArray⟩ = k' := ⟨_, rfl⟩
 obtain ⟨an, han⟩ : ∃ k', (M.nd k).attrs.length = k' := ⟨_, rfl⟩
 obtain ⟨up, hup⟩ : ∃ k', (M.pl k).up = k' := ⟨_, rfl⟩
 obtain ⟨kn, hkn⟩ : ∃ k', (R k).length = k' := ⟨_, rfl⟩
 obtain ⟨sh, hsh⟩ : ∃ k', (M.nd k).shadow = k' := ⟨_, rfl⟩
 obtain ⟨ho, hho⟩ : ∃ k', (M.nd k).host = k' := ⟨_, rfl⟩
 obtain ⟨co, hco⟩ : ∃ k', (M.nd k).content = k' := ⟨_, rfl⟩
 obtain ⟨fl, hfl⟩ : ∃ k', (M.nd k).fl = k' := ⟨_, rfl⟩
 rw [hkd, hNM, hDT, han, hup, hkn, hsh, hho, hco, hfl] at hr
 obtain ⟨m, hm⟩ : ∃ m, M.n = m := ⟨_, rfl⟩
 rw [hm] at c1
 have him : k < m := by rw [<- hm]; exact hi
 have hm5 : m <= 100000 := by rw [<- hm]; exact hn
 obtain ⟨V, N7, hV, hN7, hbV, hkV, hz7⟩ := zal X (rnC kz NM DT aa an ac up ka kn kc sh ho co fl).toArray 58
 have hwV : Kept (fun k => k < w0.heap.size) w0 V := kt hX hkV
 have HN7 : Hid (X.heap.size = N7) := hN7
 have HV : Hid (X.alloc (.cells #[.int .u8 kz, .string NM, .string DT, .slice aa an ac, .int .i64 up, .slice ka kn kc, .int .i64 sh, .int .i64 ho, .int .i64 co, .bool fl.a, .bool fl.b, .bool fl.c, .bool fl.d, .bool fl.e] 58) = V) := hV
 have HKV : Hid (Kept (fun k => k < X.heap.size) X V) := hkV
 have z0 : V.cell? ⟨N7, 0, none⟩ = some (.int .u8 kz) := by rw [zaa hbV]; rfl
 obtain rfl : kz = 5 := by rw [<- hkd, hk]; rfl
 have z10 : V.cell? ⟨N7, 10, none⟩ = some (.bool fl.b) := by rw [zaa hbV]; rfl
 rw [hfl]
 clear hE hX hA hat hV hN7 hkV hz7 hwV hbV hNM hDT han hup hkn hsh hho hco hfl hm hi hn hkd hS
 go_enter Tryz.func143, Tryz.ntmps143
 go_upto_region 2 with (refine wpList_load_mid rfl 58 _ rfl g (k * 14) rfl _ _ hr Tryz.underlying58 rfl zbq ?_)
 rw [HV.out, HN7.out]
 clear HV HN7 hr c1
 go_wp2
 go_ret
 exact ⟨rfl, HKV.out⟩
theorem zil (hE : RE w0 r M R g nc) (hn : M.n <= 100000) (hi : k < M.n) (hS : SzN (M.nd k)) (k1 : (M.nd k).kind ≠ 1) (k2 : (M.nd k).kind ≠ 2) (k3 : (M.nd k).kind ≠ 3) (k5 : (M.nd k).kind ≠ 5) (X : World) (hX : Kept (fun k => k < w0.heap.size) w0 X) :
  Calls Tryz.prog 143 #[.pointer (some ⟨r, 0, none⟩), .int .i64 (k : Int)] X fun e w' => e = .returned (.bool (false)) /\ Kept (fun k => k < X.heap.size) X w' := by
 obtain ⟨aa, ac, ka, kc, hA⟩ := hE k hi
 have hat := hA X hX
 have c1 := hat.c1
 have hr := hat.range
 obtain ⟨kz, hkd⟩ : ∃ k' : Int, ((M.nd k).kind : Int) = k' := ⟨_, rfl⟩
 obtain ⟨NM, hNM⟩ : ∃ k' : ByteArray, ⟨(M.nd k).name.toArray⟩ = k' := ⟨_, rfl⟩
 obtain ⟨DT, hDT⟩ : ∃ k' : ByteArray, ⟨(M.nd k).data.toArray⟩ = k' := ⟨_, rfl⟩
 obtain ⟨an, han⟩ : ∃ k', (M.nd k).attrs.length = k' := ⟨_, rfl⟩
 obtain ⟨up, hup⟩ : ∃ k', (M.pl k).up = k' := ⟨_, rfl⟩
 obtain ⟨kn, hkn⟩ : ∃ k', (R k).length = k' := ⟨_, rfl⟩
 obtain ⟨sh, hsh⟩ : ∃ k', (M.nd k).shadow = k' := ⟨_, rfl⟩
 obtain ⟨ho, hho⟩ : ∃ k', (M.nd k).host = k' := ⟨_, rfl⟩
 obtain ⟨co, hco⟩ : ∃ k', (M.nd k).content = k' := ⟨_, rfl⟩
 obtain ⟨fl, hfl⟩ : ∃ k', (M.nd k).fl = k' := ⟨_, rfl⟩
 rw [hkd, hNM, hDT, han, hup, hkn, hsh, hho, hco, hfl] at hr
 obtain ⟨m, hm⟩ : ∃ m, M.n = m := ⟨_, rfl⟩
 rw [hm] at c1
 have him : k < m := by rw [<- hm]; exact hi
 have hm5 : m <= 100000 := by rw [<- hm]; exact hn
 obtain ⟨V, N7, hV, hN7, hbV, hkV, hz7⟩ := zal X (rnC kz NM DT aa an ac up ka kn kc sh ho co fl).toArray 58
 have hwV : Kept (fun k => k < w0.heap.size) w0 V := kt hX hkV
 have HN7 : Hid (X.heap.size = N7) := hN7
 have HV : Hid (X.alloc (.cells #[.int .u8 kz, .string NM, .string DT, .slice aa an ac, .int .i64 up, .slice ka kn kc, .int .i64 sh, .int .i64 ho, .int .i64 co, .bool fl.a, .bool fl.b, .bool fl.c, .bool fl.d, .bool fl.e] 58) = V) := hV
 have HKV : Hid (Kept (fun k => k < X.heap.size) X V) := hkV
 have z0 : V.cell? ⟨N7, 0, none⟩ = some (.int .u8 kz) := by rw [zaa hbV]; rfl
 have n1 : (kz == 1) = false := by rw [beq_eq_false_iff_ne, <- hkd]; omega
 have n2 : (kz == 2) = false := by rw [beq_eq_false_iff_ne, <- hkd]; omega
 have n3 : (kz == 3) = false := by rw [beq_eq_false_iff_ne, <- hkd]; omega
 have n5 : (kz == 5) = false := by rw [beq_eq_false_iff_ne, <- hkd]; omega
 clear k1 k2 k3 k5
 clear hE hX hA hat hV hN7 hkV hz7 hwV hbV hNM hDT han hup hkn hsh hho hco hfl hm hi hn hkd hS
 go_enter Tryz.func143, Tryz.ntmps143
 go_upto_region 2 with (refine wpList_load_mid rfl 58 _ rfl g (k * 14) rfl _ _ hr Tryz.underlying58 rfl zbq ?_)
 rw [HV.out, HN7.out]
 clear HV HN7 hr c1
 go_wp2
 go_ret
 exact ⟨rfl, HKV.out⟩
theorem zfs (hE : RE w0 r M R g nc) (hn : M.n <= 100000) (hi : k < M.n) (hS : SzN (M.nd k)) (hk : (M.nd k).kind = 3) (X : World) (hX : Kept (fun k => k < w0.heap.size) w0 X) :
  Calls Tryz.prog 143 #[.pointer (some ⟨r, 0, none⟩), .int .i64 (k : Int)] X fun e w' => e = .returned (.bool (!(M.nd k).data.any s3B)) /\ Kept (fun k => k < X.heap.size) X w' := by
 obtain ⟨aa, ac, ka, kc, hA⟩ := hE k hi
 have hat := hA X hX
 have c1 := hat.c1
 have hr := hat.range
 obtain ⟨kz, hkd⟩ : ∃ k' : Int, ((M.nd k).kind : Int) = k' := ⟨_, rfl⟩
 obtain ⟨NM, hNM⟩ : ∃ k' : ByteArray, ⟨(M.nd k).name.toArray⟩ = k' := ⟨_, rfl⟩
 obtain ⟨DT, hDT⟩ : ∃ k' : ByteArray, ⟨(M.nd k).data.toArray⟩ = k' := ⟨_, rfl⟩
 obtain ⟨an, han⟩ : ∃ k', (M.nd k).attrs.length = k' := ⟨_, rfl⟩
 obtain ⟨up, hup⟩ : ∃ k', (M.pl k).up = k' := ⟨_, rfl⟩
 obtain ⟨kn, hkn⟩ : ∃ k', (R k).length = k' := ⟨_, rfl⟩
 obtain ⟨sh, hsh⟩ : ∃ k', (M.nd k).shadow = k' := ⟨_, rfl⟩
 obtain ⟨ho, hho⟩ : ∃ k', (M.nd k).host = k' := ⟨_, rfl⟩
 obtain ⟨co, hco⟩ : ∃ k', (M.nd k).content = k' := ⟨_, rfl⟩
 obtain ⟨fl, hfl⟩ : ∃ k', (M.nd k).fl = k' := ⟨_, rfl⟩
 rw [hkd, hNM, hDT, han, hup, hkn, hsh, hho, hco, hfl] at hr
 obtain ⟨m, hm⟩ : ∃ m, M.n = m := ⟨_, rfl⟩
 rw [hm] at c1
 have him : k < m := by rw [<- hm]; exact hi
 have hm5 : m <= 100000 := by rw [<- hm]; exact hn
 obtain ⟨V, N7, hV, hN7, hbV, hkV, hz7⟩ := zal X (rnC kz NM DT aa an ac up ka kn kc sh ho co fl).toArray 58
 have hwV : Kept (fun k => k < w0.heap.size) w0 V := kt hX hkV
 have HN7 : Hid (X.heap.size = N7) := hN7
 have HV : Hid (X.alloc (.cells #[.int .u8 kz, .string NM, .string DT, .slice aa an ac, .int .i64 up, .slice ka kn kc, .int .i64 sh, .int .i64 ho, .int .i64 co, .bool fl.a, .bool fl.b, .bool fl.c, .bool fl.d, .bool fl.e] 58) = V) := hV
 have HKV : Hid (Kept (fun k => k < X.heap.size) X V) := hkV
 have z0 : V.cell? ⟨N7, 0, none⟩ = some (.int .u8 kz) := by rw [zaa hbV]; rfl
 obtain rfl : kz = 3 := by rw [<- hkd, hk]; rfl
 have z2 : V.cell? ⟨N7, 2, none⟩ = some (.string DT) := by rw [zaa hbV]; rfl
 have hs45 : DT.size <= 4000000000 := by rw [<- hDT]; show Array.size _ <= _; rw [List.size_toArray]; have := hS.dt; omega
 have rin45 : ∀ Y, Calls Tryz.prog 219 #[.string DT, .int .u8 45] Y fun e w' => e = .returned (.bool ((M.nd k).data.any (· == 45))) /\ w' = Y := fun Y => by
  have := zfi DT 45 hs45 Y
  rw [<- hDT] at this ⊢
  exact this
 obtain ⟨b4, hb4⟩ : ∃ b, (M.nd k).data.any (· == 45) = b := ⟨_, rfl⟩
 rw [hb4] at rin45
 have RIN45 : Hid (∀ Y, Calls Tryz.prog 219 #[.string DT, .int .u8 45] Y fun e w' => e = .returned (.bool b4) /\ w' = Y) := rin45
 clear hs45 rin45
 have hs62 : DT.size <= 4000000000 := by rw [<- hDT]; show Array.size _ <= _; rw [List.size_toArray]; have := hS.dt; omega
 have rin62 : ∀ Y, Calls Tryz.prog 219 #[.string DT, .int .u8 62] Y fun e w' => e = .returned (.bool ((M.nd k).data.any (· == 62))) /\ w' = Y := fun Y => by
  have := zfi DT 62 hs62 Y
  rw [<- hDT] at this ⊢
  exact this
 obtain ⟨b6, hb6⟩ : ∃ b, (M.nd k).data.any (· == 62) = b := ⟨_, rfl⟩
 rw [hb6] at rin62
 have RIN62 : Hid (∀ Y, Calls Tryz.prog 219 #[.string DT, .int .u8 62] Y fun e w' => e = .returned (.bool b6) /\ w' = Y) := rin62
 clear hs62 rin62
 have hs0 : DT.size <= 4000000000 := by rw [<- hDT]; show Array.size _ <= _; rw [List.size_toArray]; have := hS.dt; omega
 have rin0 : ∀ Y, Calls Tryz.prog 219 #[.string DT, .int .u8 0] Y fun e w' => e = .returned (.bool ((M.nd k).data.any (· == 0))) /\ w' = Y := fun Y => by
  have := zfi DT 0 hs0 Y
  rw [<- hDT] at this ⊢
  exact this
 obtain ⟨b0, hb0⟩ : ∃ b, (M.nd k).data.any (· == 0) = b := ⟨_, rfl⟩
 rw [hb0] at rin0
 have RIN0 : Hid (∀ Y, Calls Tryz.prog 219 #[.string DT, .int .u8 0] Y fun e w' => e = .returned (.bool b0) /\ w' = Y) := rin0
 clear hs0 rin0
 rw [zr8, hb4, hb6, hb0]
 clear hb4 hb6 hb0 hk
 clear hE hX hA hat hV hN7 hkV hz7 hwV hbV hNM hDT han hup hkn hsh hho hco hfl hm hi hn hkd hS
 go_enter Tryz.func143, Tryz.ntmps143
 go_upto_region 2 with (refine wpList_load_mid rfl 58 _ rfl g (k * 14) rfl _ _ hr Tryz.underlying58 rfl zbq ?_)
 rw [HV.out, HN7.out]
 clear HV HN7 hr c1
 go_wp2_with fail
 refine (RIN45.out _).mono ?_
 rintro e1 w3 ⟨rfl, hw3⟩
 replace hw3 := hw3.symm
 subst hw3
 clear RIN45
 cases b4
 ·go_wp2_with fail
  refine (RIN62.out _).mono ?_
  rintro e1 w3 ⟨rfl, hw3⟩
  replace hw3 := hw3.symm
  subst hw3
  clear RIN62
  cases b6
  ·go_wp2_with fail
   refine (RIN0.out _).mono ?_
   rintro e1 w3 ⟨rfl, hw3⟩
   replace hw3 := hw3.symm
   subst hw3
   clear RIN0
   cases b0 <;> (go_wp2; go_ret; exact ⟨rfl, HKV.out⟩)
  ·go_wp2
   go_ret
   exact ⟨rfl, HKV.out⟩
 ·go_wp2
  go_ret
  exact ⟨rfl, HKV.out⟩
theorem zi2 (hE : RE w0 r M R g nc) (hn : M.n <= 100000) (hi : k < M.n) (hS : SzN (M.nd k)) (hk : (M.nd k).kind = 2) {ln : Bool} (hl : ∀ Y, Kept (fun k => k < w0.heap.size) w0 Y -> Calls Tryz.prog 221 #[.pointer (some ⟨r, 0, none⟩), .int .i64 (k : Int)] Y fun e w' => e = .returned (.bool ln) /\ Kept (fun k => k < Y.heap.size) Y w') (X : World) (hX : Kept (fun k => k < w0.heap.size) w0 X) :
  Calls Tryz.prog 143 #[.pointer (some ⟨r, 0, none⟩), .int .i64 (k : Int)] X fun e w' => e = .returned (.bool ((M.nd k).data != [] && (!(M.nd k).data.any (· == 0) && ln))) /\ Kept (fun k => k < X.heap.size) X w' := by
 obtain ⟨aa, ac, ka, kc, hA⟩ := hE k hi
 have hat := hA X hX
 have c1 := hat.c1
 have hr := hat.range
 obtain ⟨kz, hkd⟩ : ∃ k' : Int, ((M.nd k).kind : Int) = k' := ⟨_, rfl⟩
 obtain ⟨NM, hNM⟩ : ∃ k' : ByteArray, ⟨(M.nd k).name.toArray⟩ = k' := ⟨_, rfl⟩
 obtain ⟨DT, hDT⟩ : ∃ k' : ByteArray, ⟨(M.nd k).data.toArray⟩ = k' := ⟨_, rfl⟩
 obtain ⟨an, han⟩ : ∃ k', (M.nd k).attrs.length = k' := ⟨_, rfl⟩
 obtain ⟨up, hup⟩ : ∃ k', (M.pl k).up = k' := ⟨_, rfl⟩
 obtain ⟨kn, hkn⟩ : ∃ k', (R k).length = k' := ⟨_, rfl⟩
 obtain ⟨sh, hsh⟩ : ∃ k', (M.nd k).shadow = k' := ⟨_, rfl⟩
 obtain ⟨ho, hho⟩ : ∃ k', (M.nd k).host = k' := ⟨_, rfl⟩
 obtain ⟨co, hco⟩ : ∃ k', (M.nd k).content = k' := ⟨_, rfl⟩
 obtain ⟨fl, hfl⟩ : ∃ k', (M.nd k).fl = k' := ⟨_, rfl⟩
 rw [hkd, hNM, hDT, han, hup, hkn, hsh, hho, hco, hfl] at hr
 obtain ⟨m, hm⟩ : ∃ m, M.n = m := ⟨_, rfl⟩
 rw [hm] at c1
 have him : k < m := by rw [<- hm]; exact hi
 have hm5 : m <= 100000 := by rw [<- hm]; exact hn
 obtain ⟨V, N7, hV, hN7, hbV, hkV, hz7⟩ := zal X (rnC kz NM DT aa an ac up ka kn kc sh ho co fl).toArray 58
 have hwV : Kept (fun k => k < w0.heap.size) w0 V := kt hX hkV
 have HN7 : Hid (X.heap.size = N7) := hN7
 have HV : Hid (X.alloc (.cells #[.int .u8 kz, .string NM, .string DT, .slice aa an ac, .int .i64 up, .slice ka kn kc, .int .i64 sh, .int .i64 ho, .int .i64 co, .bool fl.a, .bool fl.b, .bool fl.c, .bool fl.d, .bool fl.e] 58) = V) := hV
 have HKV : Hid (Kept (fun k => k < X.heap.size) X V) := hkV
 have z0 : V.cell? ⟨N7, 0, none⟩ = some (.int .u8 kz) := by rw [zaa hbV]; rfl
 obtain rfl : kz = 2 := by rw [<- hkd, hk]; rfl
 have z2 : V.cell? ⟨N7, 2, none⟩ = some (.string DT) := by rw [zaa hbV]; rfl
 have hs0 : DT.size <= 4000000000 := by rw [<- hDT]; show Array.size _ <= _; rw [List.size_toArray]; have := hS.dt; omega
 have rin0 : ∀ Y, Calls Tryz.prog 219 #[.string DT, .int .u8 0] Y fun e w' => e = .returned (.bool ((M.nd k).data.any (· == 0))) /\ w' = Y := fun Y => by
  have := zfi DT 0 hs0 Y
  rw [<- hDT] at this ⊢
  exact this
 obtain ⟨b0, hb0⟩ : ∃ b, (M.nd k).data.any (· == 0) = b := ⟨_, rfl⟩
 rw [hb0] at rin0
 have RIN0 : Hid (∀ Y, Calls Tryz.prog 219 #[.string DT, .int .u8 0] Y fun e w' => e = .returned (.bool b0) /\ w' = Y) := rin0
 clear hs0 rin0
 have rl := hl V hwV
 obtain ⟨bE, hbE⟩ : ∃ b, DT.toList.isEmpty = b := ⟨_, rfl⟩
 have hE2 : ((M.nd k).data != []) = !bE := by
  rw [<- hbE, <- hDT, lis]
  cases (M.nd k).data <;> rfl
 rw [hb0, hE2]
 clear hb0 hk hE2 hl
 clear hE hX hA hat hV hN7 hkV hz7 hwV hbV hNM hDT han hup hkn hsh hho hco hfl hm hi hn hkd hS
 go_enter Tryz.func143, Tryz.ntmps143
 go_upto_region 2 with (refine wpList_load_mid rfl 58 _ rfl g (k * 14) rfl _ _ hr Tryz.underlying58 rfl zbq ?_)
 rw [HV.out, HN7.out]
 clear HV HN7 hr c1
 cases bE
 ·cases b0
  ·go_wp2_with (first | (go_at_call 219; (refine (RIN0.out _).mono ?_; rintro e1 w3 ⟨rfl, hw3⟩; replace hw3 := hw3.symm; subst hw3)) | (go_at_call 221; refine rl.mono ?_; rintro e1 w3 ⟨rfl, hw3⟩))
   go_ret
   exact ⟨by simp, kt HKV.out hw3⟩
  ·go_wp2_with (go_at_call 219; (refine (RIN0.out _).mono ?_; rintro e1 w3 ⟨rfl, hw3⟩; replace hw3 := hw3.symm; subst hw3))
   go_ret
   exact ⟨rfl, HKV.out⟩
 ·go_wp2
  go_ret
  exact ⟨rfl, HKV.out⟩
theorem zft (hE : RE w0 r M R g nc) (hn : M.n <= 100000) (hi : k < M.n) (hS : SzN (M.nd k)) (hk : (M.nd k).kind = 1) (X : World) (hX : Kept (fun k => k < w0.heap.size) w0 X) :
  Calls Tryz.prog 143 #[.pointer (some ⟨r, 0, none⟩), .int .i64 (k : Int)] X fun e w' => e = .returned (.bool (zfn (M.nd k).name && !zbe (M.nd k).attrs)) /\ Kept (fun k => k < X.heap.size) X w' := by
 obtain ⟨aa, ac, ka, kc, hA⟩ := hE k hi
 have hat := hA X hX
 have c1 := hat.c1
 have hr := hat.range
 obtain ⟨kz, hkd⟩ : ∃ k' : Int, ((M.nd k).kind : Int) = k' := ⟨_, rfl⟩
 obtain ⟨NM, hNM⟩ : ∃ k' : ByteArray, ⟨(M.nd k).name.toArray⟩ = k' := ⟨_, rfl⟩
 obtain ⟨DT, hDT⟩ : ∃ k' : ByteArray, ⟨(M.nd k).data.toArray⟩ = k' := ⟨_, rfl⟩
 obtain ⟨an, han⟩ : ∃ k', (M.nd k).attrs.length = k' := ⟨_, rfl⟩
 obtain ⟨up, hup⟩ : ∃ k', (M.pl k).up = k' := ⟨_, rfl⟩
 obtain ⟨kn, hkn⟩ : ∃ k', (R k).length = k' := ⟨_, rfl⟩
 obtain ⟨sh, hsh⟩ : ∃ k', (M.nd k).shadow = k' := ⟨_, rfl⟩
 obtain ⟨ho, hho⟩ : ∃ k', (M.nd k).host = k' := ⟨_, rfl⟩
 obtain ⟨co, hco⟩ : ∃ k', (M.nd k).content = k' := ⟨_, rfl⟩
 obtain ⟨fl, hfl⟩ : ∃ k', (M.nd k).fl = k' := ⟨_, rfl⟩
 rw [hkd, hNM, hDT, han, hup, hkn, hsh, hho, hco, hfl] at hr
 obtain ⟨m, hm⟩ : ∃ m, M.n = m := ⟨_, rfl⟩
 rw [hm] at c1
 have him : k < m := by rw [<- hm]; exact hi
 have hm5 : m <= 100000 := by rw [<- hm]; exact hn
 obtain ⟨V, N7, hV, hN7, hbV, hkV, hz7⟩ := zal X (rnC kz NM DT aa an ac up ka kn kc sh ho co fl).toArray 58
 have hwV : Kept (fun k => k < w0.heap.size) w0 V := kt hX hkV
 have HN7 : Hid (X.heap.size = N7) := hN7
 have HV : Hid (X.alloc (.cells #[.int .u8 kz, .string NM, .string DT, .slice aa an ac, .int .i64 up, .slice ka kn kc, .int .i64 sh, .int .i64 ho, .int .i64 co, .bool fl.a, .bool fl.b, .bool fl.c, .bool fl.d, .bool fl.e] 58) = V) := hV
 have HKV : Hid (Kept (fun k => k < X.heap.size) X V) := hkV
 have z0 : V.cell? ⟨N7, 0, none⟩ = some (.int .u8 kz) := by rw [zaa hbV]; rfl
 obtain rfl : kz = 1 := by rw [<- hkd, hk]; rfl
 have z1 : V.cell? ⟨N7, 1, none⟩ = some (.string NM) := by rw [zaa hbV]; rfl
 have z3 : V.cell? ⟨N7, 3, none⟩ = some (.slice aa an ac) := by rw [zaa hbV]; rfl
 have hs1 : NM.size < 1000 := by rw [<- hNM]; show Array.size _ < _; rw [List.size_toArray]; exact hS.nm hk
 have rn := fun Y => znf NM hs1 Y
 have enm : NM.toList = (M.nd k).name := by rw [<- hNM, lis]
 rw [enm] at rn
 have RN : Hid (∀ Y, Calls Tryz.prog 220 #[.string NM] Y fun e w' => e = .returned (.bool (zfn (M.nd k).name)) /\ Kept (fun k => k < Y.heap.size) Y w') := rn
 have HATS : Hid (Zag (fun q => q < w0.heap.size) V aa (M.nd k).attrs) := (hA V hwV).ats
 have HSA : Hid (∀ a ∈ (M.nd k).attrs, a.value.length < 1000000) := hS.at_
 have HAN : Hid ((M.nd k).attrs.length = an) := han
 have han5 : an <= 100000 := by rw [<- han]; exact hS.few
 obtain ⟨al, hal⟩ : ∃ l, (M.nd k).attrs = l := ⟨_, rfl⟩
 obtain ⟨sn, hsn⟩ : ∃ b, zfn (M.nd k).name = b := ⟨_, rfl⟩
 rw [hal] at HATS HSA HAN ⊢
 rw [hsn] at RN ⊢
 clear hk hs1 rn enm hal hsn
 clear hE hX hA hat hV hN7 hkV hz7 hwV hbV hNM hDT han hup hkn hsh hho hco hfl hm hi hn hkd hS
 go_enter Tryz.func143, Tryz.ntmps143
 go_upto_region 2 with (refine wpList_load_mid rfl 58 _ rfl g (k * 14) rfl _ _ hr Tryz.underlying58 rfl zbq ?_)
 rw [HV.out, HN7.out]
 clear HV HN7 hr c1
 go_wp2_with fail
 go_loopg [6] an (fun gm vi wr => ∃ j : Nat, gm = an - j /\ j <= an /\ vi = .int .i64 j /\ (∀ t (h : t < al.length), t < j -> zbw al[t].value = false) /\ wr = V)
 case atStart => exact ⟨0, rfl, Nat.zero_le _, rfl, fun t h h2 => absurd h2 (Nat.not_lt_zero _), rfl⟩
 case round =>
  obtain ⟨j, hg, hj, rfl, hno, rfl⟩ := hrel
  have HNO : Hid (∀ t (h : t < al.length), t < j -> zbw al[t].value = false) := hno
  clear hno
  by_cases hlt : j < an
  ·have hjl : j < al.length := by rw [HAN.out]; exact hlt
   obtain ⟨q, o, hka, -, -, d1⟩ := HATS.out j hjl
   subst hka
   obtain ⟨vs, hvs⟩ : ∃ s : ByteArray, ⟨(al[j].value).toArray⟩ = s := ⟨_, rfl⟩
   have d1' : wr.cell? ⟨q, o + j * 2 + 1, none⟩ = some (.string vs) := by rw [<- hvs]; exact d1
   have hvz : vs.size <= 4000000000 := by rw [<- hvs]; show Array.size _ <= _; rw [List.size_toArray]; have := HSA.out _ (List.getElem_mem hjl); omega
   have rv : ∀ Y, Calls Tryz.prog 219 #[.string vs, .int .u8 0] Y fun e w' => e = .returned (.bool (zbw al[j].value)) /\ w' = Y := fun Y => by
    have := zfi vs 0 hvz Y
    rw [<- hvs] at this ⊢
    exact this
   obtain ⟨b, hb⟩ : ∃ b, zbw al[j].value = b := ⟨_, rfl⟩
   rw [hb] at rv
   have HB : Hid (zbw al[j].value = b) := hb
   have HJL : Hid (j < al.length) := hjl
   have HD : Hid (o + j * 2 + 1 = o + (j * 2 + 1)) := Nat.add_assoc _ _ _
   have d2 : wr.cell? ⟨q, o + (j * 2 + 1), none⟩ = some (.string vs) := by rw [<- HD.out]; exact d1'
   clear d1 hb hvs hvz
   cases b
   ·go_wp2_with (go_at_call 219; refine (rv _).mono ?_; rintro e1 w3 ⟨rfl, hw3⟩; replace hw3 := hw3.symm; subst hw3)
    go_roundg (an - (j + 1))
    case rel => exact ⟨j + 1, rfl, by omega, by go_num, fun t h h2 => by
     rcases Nat.lt_or_ge t j with h3 | h3
     ·exact HNO.out t h h3
     ·obtain rfl : t = j := by omega
      exact HB.out, rfl⟩
    case measure => omega
   ·have HF : Hid (zbe al = true) := by
     refine List.any_eq_true.2 ⟨al[j]'HJL.out, List.getElem_mem _, HB.out⟩
    go_wp2_with (go_at_call 219; refine (rv _).mono ?_; rintro e1 w3 ⟨rfl, hw3⟩; replace hw3 := hw3.symm; subst hw3)
    go_ret
    exact ⟨by rw [HF.out]; cases sn <;> rfl, HKV.out⟩
  ·obtain rfl : j = an := by omega
   have HF : Hid (zbe al = false) := by
    refine (show Hid _ from ?_)
    refine List.any_eq_false.2 fun a ha => ?_
    obtain ⟨t, ht, rfl⟩ := List.getElem_of_mem ha
    rw [HNO.out t ht (by rw [<- HAN.out]; exact ht)]
    decide
   go_wp2_with (go_at_call 220; refine (RN.out _).mono ?_; rintro e1 w3 ⟨rfl, hw3⟩)
   go_ret
   exact ⟨by rw [HF.out]; cases sn <;> rfl, kt HKV.out hw3⟩
end
end Go.Proofs.YtfeinppedejlpaaGreat
