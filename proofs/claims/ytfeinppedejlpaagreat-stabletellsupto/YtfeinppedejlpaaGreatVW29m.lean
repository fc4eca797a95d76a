/-
  portierelaw10: heavy, and both documents behind calls.; Attributes, slots, and who asks for them, as plain functions (pure). strings.IndexAny is what the shelf was made over: its bodies and types, one
-/
import Derived.Test.YtfeinppedejlpaaGreatVW28
import Derived.Test.YtfeinppedejlpaaGreatVW26
import Derived.Test.YtfeinppedejlpaaGreatVW17
import Derived.Test.YtfeinppedejlpaaGreatVB19
import Derived.Deep.MidRow
import Derived.Shelf.Strings.IndexAnyAll
import Derived.Test.YtfeinppedejlpaaGreatProg
import Derived.Test.YtfeinppedejlpaaGreatVCum
namespace Go.Proofs.YtfeinppedejlpaaGreat
section
set_option linter.unusedVariables false
set_option maxRecDepth 100000
set_option maxHeartbeats 8000000
section
open Go.RowKit Go.Sort
theorem Zkj.inn {o : Opx} (h : Zkj o) : Zkj { o with inn := true } := ⟨h.k, h.nk, h.a, h.b, h.c, h.l⟩
end
end
section
open Go.Shelf
def ze3 : Go.Shelf.Ren := ⟨fun | 153 => 256 | 152 => 278 | 226 => 279 | 227 => 280 | 228 => 281 | 137 => 255 | 119 => 294 | 224 => 295 | 225 => 296 | 217 => 277 | 266 => 293 | n => n, fun | 9 => 9 | 3 => 3 | 4 => 4 | 5 => 5 | 21 => 21 | 117 => 261 | 116 => 260 | 0 => 0 | 46 => 272 | 124 => 273 | n => n, fun | n => n⟩
theorem zrl : Go.Proofs.Lays.n153 Tryz.prog ze3 := {
 mixed := by kernel_rfl
 f119 := Tryz.func294.trans (congrArg some (by kernel_rfl))
 f137 := Tryz.func255.trans (congrArg some (by kernel_rfl))
 f152 := Tryz.func278.trans (congrArg some (by kernel_rfl))
 f153 := Tryz.func256.trans (congrArg some (by kernel_rfl))
 f217 := Tryz.func277.trans (congrArg some (by kernel_rfl))
 f224 := Tryz.func295.trans (congrArg some (by kernel_rfl))
 f225 := Tryz.func296.trans (congrArg some (by kernel_rfl))
 f226 := Tryz.func279.trans (congrArg some (by kernel_rfl))
 f227 := Tryz.func280.trans (congrArg some (by kernel_rfl))
 f228 := Tryz.func281.trans (congrArg some (by kernel_rfl))
 f266 := Tryz.func293.trans (congrArg some (by kernel_rfl))
 t0 := Tryz.underlying0
 a0 := Tryz.isAgg0
 z0 := Tryz.sizeOf0
 v0 := Tryz.zeroValue0
 t3 := Tryz.underlying3
 a3 := Tryz.isAgg3
 z3 := Tryz.sizeOf3
 v3 := Tryz.zeroValue3
 t4 := Tryz.underlying4
 a4 := Tryz.isAgg4
 z4 := Tryz.sizeOf4
 v4 := Tryz.zeroValue4
 t5 := Tryz.underlying5
 a5 := Tryz.isAgg5
 z5 := Tryz.sizeOf5
 v5 := Tryz.zeroValue5
 t9 := Tryz.underlying9
 a9 := Tryz.isAgg9
 z9 := Tryz.sizeOf9
 v9 := Tryz.zeroValue9
 t21 := Tryz.underlying21
 a21 := Tryz.isAgg21
 z21 := Tryz.sizeOf21
 v21 := Tryz.zeroValue21
 t46 := Tryz.underlying272
 a46 := Tryz.isAgg272
 z46 := Tryz.sizeOf272
 v46 := Tryz.zeroValue272
 t116 := Tryz.underlying260
 a116 := Tryz.isAgg260
 z116 := Tryz.sizeOf260
 t117 := Tryz.underlying261
 a117 := Tryz.isAgg261
 z117 := Tryz.sizeOf261
 v117 := Tryz.zeroValue261
 t124 := Tryz.underlying273
 a124 := Tryz.isAgg273
 z124 := Tryz.sizeOf273
 v124 := Tryz.zeroValue273 }
end
section
open Go.RowKit
set_option linter.unusedVariables false
set_option maxRecDepth 100000
set_option maxHeartbeats 8000000
theorem zsy (n : Int) (w : World) : Calls Tryz.prog 279 #[.int .i64 n] w fun e w' => e = .returned (.bool (decide (8 < n))) /\ w' = w := by
 go_enter Tryz.func279, Tryz.ntmps279
 go_wp2
 go_ret
 exact ⟨rfl, rfl⟩
theorem zlp (s : ByteArray) (i : Nat) (hi : i < s.size) : 1 <= (Utf8.decode s i).2 := by
 by_cases ha : (s[i]'hi).toNat < 128
 ·rw [decode_ascii s i hi ha]
  exact Nat.le_refl 1
 ·exact (decode_high s i hi (by omega)).2
theorem zqj (s : ByteArray) (h8 : s.size <= 8) (w : World) : Calls Tryz.prog 256 #[.string s, .string cS3] w fun e w' => (∃ z : Int, e = .returned (.int .i64 z) /\ decide (0 <= z) = s.data.toList.any s3B) /\ Kept (fun k => k < w.heap.size) w w' := by
 have IX : Hid (∀ i (hi : i < s.size) (w : World), Calls Tryz.prog 278 #[.string cS3, .int .i32 ((Utf8.decode s i).1 : Int)] w fun e w' => (∃ z : Int, e = .returned (.int .i64 z) /\ decide (0 <= z) = s3B (s[i]'hi)) /\ Kept (fun k => k < w.heap.size) w w') := fun i hi w => zsw s i hi w
 have hsu := fun X => zsy (s.size : Int) X
 obtain ⟨S, hS⟩ : ∃ S, cS3 = S := ⟨_, rfl⟩
 have hS3 : S.size = 3 := by rw [<- hS]; rfl
 have hemp : S.toList.isEmpty = false := by rw [<- hS]; decide +kernel
 rw [hS] at IX ⊢
 have h8z : decide ((8 : Int) < (s.size : Int)) = false := decide_eq_false (by omega)
 rw [h8z] at hsu
 obtain ⟨N, hN⟩ : ∃ N, w.heap.size = N := ⟨_, rfl⟩
 have HN : Hid (w.heap.size = N) := hN
 clear hS
 go_enter Tryz.func256, Tryz.ntmps256
 go_wp2_with (go_at_call 279; refine (hsu _).mono ?_; rintro e1 w3 ⟨rfl, hw3⟩; replace hw3 := hw3.symm; subst hw3)
 go_loopg [9, 10] (s.size + 1) (fun g v9 v10 wx => ∃ i : Nat, g = s.size + 1 - i /\ NoS s i /\ wx.heap[N]? = some (.stringIter s i) /\ Kept (fun k => k < w.heap.size) w wx)
 case atStart =>
  refine ⟨0, rfl, ⟨Nat.zero_le _, fun j hj => absurd hj (Nat.not_lt_zero _)⟩, ?_, (Kept.refl _ w).alloc (fun _ h => h) _⟩
  rw [<- HN.out]
  exact World.iter_heap w s 0
 case round =>
  obtain ⟨i, hg, hno, hit, hK⟩ := hrel
  have HNO : Hid (NoS s i) := hno
  have HK : Hid (Kept (fun k => k < w.heap.size) w wr) := hK
  have hle := hno.1
  by_cases hi : i < s.size
  ·have hnx := fun ty => zi7 (P := Tryz.prog) wr N s i ty hit hi
   obtain ⟨V, hV⟩ : ∃ V, wr.putObj N (.stringIter s (i + (Utf8.decode s i).2)) = V := ⟨_, rfl⟩
   have rx := IX.out i hi V
   have HX : Hid (∀ X, Kept (fun k => k < V.heap.size) V X -> X.heap[N]? = some (.stringIter s (i + (Utf8.decode s i).2))) := fun X hX => by
    have hlt : N < wr.heap.size := by
     by_cases c : N < wr.heap.size
     ·exact c
     ·rw [Array.getElem?_eq_none (by omega)] at hit; cases hit
    have h1 : V.heap[N]? = some (.stringIter s (i + (Utf8.decode s i).2)) := by rw [<- hV]; exact World.putObj_heap_same hlt
    exact (hX.block N (by rw [<- hV, World.putObj_size]; exact hlt)).trans h1
   have HKV : Hid (Kept (fun k => k < w.heap.size) w V) := by
    rw [<- hV]
    exact hK.putObj (fun h => absurd h (by rw [HN.out]; exact Nat.lt_irrefl _)) _
   have H1 : Hid (1 <= (Utf8.decode s i).2) := zlp s i hi
   obtain ⟨ru, hru⟩ : ∃ ru, (Utf8.decode s i).1 = ru := ⟨_, rfl⟩
   rw [hV, hru] at hnx
   rw [hru] at rx
   obtain ⟨b, hb⟩ : ∃ b, s3B (s[i]'hi) = b := ⟨_, rfl⟩
   have HB : Hid (s3B (s[i]'hi) = b) := hb
   rw [hb] at rx
   clear hno hK hV hru hb
   go_wp2_with fail
   refine rx.mono ?_
   rintro e w2 ⟨⟨z, rfl, hz⟩, hK2⟩
   have HK2 : Hid (Kept (fun k => k < w.heap.size) w w2) := kt HKV.out hK2
   have HX2 : Hid (w2.heap[N]? = some (.stringIter s (i + (Utf8.decode s i).2))) := HX.out w2 hK2
   clear rx hK2 hnx hit
   cases b with
   | true =>
    have HH := zs9 hi HB.out
    have HHH : Hid (s.data.toList.any s3B = true) := HH
    clear HH
    go_wp2
    go_ret
    exact ⟨⟨_, rfl, by rw [HHH.out]; exact decide_eq_true (by omega)⟩, HK2.out⟩
   | false =>
    go_wp2
    go_roundg (s.size + 1 - (i + (Utf8.decode s i).2))
    case rel => exact ⟨i + (Utf8.decode s i).2, rfl, HNO.out.next hi HB.out, HX2.out, HK2.out⟩
    case measure => have := H1.out; omega
  ·obtain rfl : i = s.size := by omega
   have hnx := fun ty => zgs (P := Tryz.prog) wr N s s.size ty hit hi
   have HALL : Hid (s.data.toList.any s3B = false) := hno.all
   clear hno hK
   go_wp2
   go_ret
   exact ⟨⟨_, rfl, by rw [HALL.out]; decide⟩, HK.out⟩
theorem zs2 (c : UInt8) : cS3.data.toList.contains c = s3B c := by
 show ([45, 62, 0] : List UInt8).contains c = _
 unfold s3B
 simp only [List.contains_cons, List.contains_nil, Bool.or_false, Bool.or_assoc]
theorem ztq : ∀ l : List UInt8, decide (0 <= Lib.indexAny l cS3.data.toList) = l.any s3B
 | [] => by decide
 | b :: l => by
  have ih := ztq l
  have hg := Lib.indexAny_ge cS3.data.toList l
  obtain ⟨z, hz⟩ : ∃ z, Lib.indexAny l cS3.data.toList = z := ⟨_, rfl⟩
  rw [Lib.indexAny, zs2, List.any_cons]
  rw [hz] at ih hg ⊢
  cases hb : s3B b with
  | true => rw [if_pos rfl, Bool.true_or]; decide
  | false =>
   rw [if_neg (by decide), Bool.false_or, <- ih]
   by_cases c : z = -1
   ·subst c; decide
   ·rw [if_neg (by simpa using c), decide_eq_true (by omega : 0 <= z), decide_eq_true (by omega)]
theorem zr5 (s : ByteArray) (h8 : 8 < s.size) (hs : s.size <= 4000000000) (w : World) : Calls Tryz.prog 256 #[.string s, .string cS3] w fun e w' => (∃ z : Int, e = .returned (.int .i64 z) /\ decide (0 <= z) = s.data.toList.any s3B) /\ Kept (fun k => k < w.heap.size) w w' := by
 have hz := zero_of_info (show (Tryz.prog.info? (ze3.t 116)).map (fun i => (i.zero, i.size)) = some (some (.agg (Array.replicate 256 (.bool false))), 256) by kernel_rfl)
 refine (Any.strings_IndexAny_long zrl hz.1 hz.2 s cS3 w (by decide) h8 (by omega) (by decide) (fun j b hb => zik b (List.mem_of_getElem? hb))).mono fun e w' h => ⟨⟨_, h.1, ?_⟩, ?_⟩
 ·exact ztq s.data.toList
 ·rw [h.2]
  exact ((Kept.refl _ w).alloc (fun _ h => h) _).alloc (fun _ h => by simp; omega) _
theorem zuy (s : ByteArray) (hs : s.size <= 4000000000) (w : World) : Calls Tryz.prog 217 #[.string s, .string cS3] w fun e w' => e = .returned (.bool (s.data.toList.any s3B)) /\ Kept (fun k => k < w.heap.size) w w' := by
 have r : Calls Tryz.prog 256 #[.string s, .string cS3] w fun e w' => (∃ z : Int, e = .returned (.int .i64 z) /\ decide (0 <= z) = s.data.toList.any s3B) /\ Kept (fun k => k < w.heap.size) w w' := by
  by_cases h8 : s.size <= 8
  ·exact zqj s h8 w
  ·exact zr5 s (by omega) hs w
 obtain ⟨b, hb⟩ : ∃ b, s.data.toList.any s3B = b := ⟨_, rfl⟩
 rw [hb] at r ⊢
 obtain ⟨S, hS⟩ : ∃ S, cS3 = S := ⟨_, rfl⟩
 rw [hS] at r ⊢
 clear hb hS
 go_enter Tryz.func217, Tryz.ntmps217
 go_wp2_with fail
 refine r.mono ?_
 rintro e w1 ⟨⟨z, rfl, hz⟩, hK⟩
 have hz' : decide (z >= 0) = b := hz
 clear r
 go_wp2
 go_ret
 exact ⟨rfl, hK⟩
end
end Go.Proofs.YtfeinppedejlpaaGreat
