/-
  The tree's builder: take, and Build.
-/
import Derived.Test.YtffllhohlfblnaaEA
import Derived.Test.YtffllhohlfblnaaDW
namespace Go.Proofs.Ytffllhohlfblnaa
open Go.RowKit Go.Sort

theorem badd_gen (K : Nat → Prop) (p : Nat) (st : BS) (w : World) (h : BX K w p st) (hn : st.items.length ≤ 1000000) (kd : Nat) (nm dt : List UInt8) :
    Calls Try.prog 41 #[.pointer (some ⟨p, 0, none⟩), .agg #[.int .i64 0, .int .u8 (kd : Int), sv nm, sv dt, .slice none 0 0]] w fun e w' => e = .returned (.tuple #[]) ∧ BX K w' p (st.item kd nm [] dt) ∧ Kept K w w' :=
  badd_any K (fun _ => False) p st w (h.same (by simp)) (fun _ h => h.elim) hn kd nm dt [] none 0 (AtsIn.nil _ _ _) (Nat.zero_le _)

set_option maxRecDepth 20000 in
set_option maxHeartbeats 1000000 in
theorem take1 (K : Nat → Prop) (p : Nat) (st : BS) (w : World) (h : BX K w p st) (hl : st.opn.length ≤ 100000) (hi : st.items.length ≤ 900000) (l : List Atr) (hn : st.flts.length + l.length ≤ 700000) (hsz : ∀ x ∈ l, x.name.length ≤ 1000000000 ∧ x.value.length ≤ 1000000000) (nm : List UInt8) (aa : Option Addr) (ac : Nat) (sf : Bool) (dt : List UInt8) (a : Nat) (ha : AtsIn K w aa l) :
    Calls Try.prog 23 #[.pointer (some ⟨p, 0, none⟩), tokV 1 nm aa l.length ac sf dt a] w fun e w' => e = .returned (.tuple #[]) ∧ BX K w' p (st.start nm l a) ∧ Kept K w w' := by
  show Calls Try.prog 23 #[.pointer (some ⟨p, 0, none⟩), .agg #[.int .u8 (1 : Int), .string ⟨nm.toArray⟩, .slice aa l.length ac, .bool sf, .string ⟨dt.toArray⟩, .int .i64 (a : Int)]] w _
  obtain ⟨S, hS⟩ : ∃ S : ByteArray, (⟨nm.toArray⟩ : ByteArray) = S := ⟨_, rfl⟩
  obtain ⟨D, hD⟩ : ∃ D : ByteArray, (⟨dt.toArray⟩ : ByteArray) = D := ⟨_, rfl⟩
  rw [hS, hD]
  obtain ⟨W, hW⟩ : ∃ W, w.alloc (.cells #[.int .u8 (1 : Int), .string S, .slice aa l.length ac, .bool sf, .string D, .int .i64 (a : Int)] 43) = W := ⟨_, rfl⟩
  obtain ⟨d, hd⟩ : ∃ d, w.heap.size = d := ⟨_, rfl⟩
  have kW : Kept (fun k => k < w.heap.size) w W := by rw [← hW]; exact (Kept.refl _ w).alloc (fun _ h => h) _
  have hcW : ∀ i u, #[.int .u8 (1 : Int), .string S, .slice aa l.length ac, .bool sf, .string D, .int .i64 (a : Int)].toList[i]? = some u → W.cell? ⟨d, i, none⟩ = some u := by
    intro i u hi
    rw [← hW, ← hd, cell_block (heap_alloc_new w _), ← Array.getElem?_toList]
    exact hi
  have hX : BX K W p st := h.kept kW
  have HX : Hid (BX K W p st) := hX
  have HK : Hid (Kept K w W) := kW.mono h.lt
  have haW : AtsIn K W aa l := ha.kept (kW.mono h.lt) fun _ h => h
  have HW : Hid (w.alloc (.cells #[.int .u8 (1 : Int), .string S, .slice aa l.length ac, .bool sf, .string D, .int .i64 (a : Int)] 43) = W) := hW
  have HD : Hid (w.heap.size = d) := hd
  have t0 := hcW 0 _ rfl
  have t1 := hcW 1 _ rfl
  have t2 := hcW 2 _ rfl
  have t3 := hcW 3 _ rfl
  have t4 := hcW 4 _ rfl
  have t5 := hcW 5 _ rfl
  have r := takeStart_any K p st W hX hl hi l hn hsz 1 nm aa ac sf dt a haW
  rw [show tokV 1 nm aa l.length ac sf dt a = .agg #[.int .u8 1, .string S, .slice aa l.length ac, .bool sf, .string D, .int .i64 (a : Int)] by rw [← hS, ← hD]; rfl] at r
  have hu := And.intro hl (And.intro hi (And.intro hn hsz))
  clear hu
  clear h hW hd kW hcW ha hsz hX haW hS hD
  go_enter Try.func23, Try.ntmps23
  go_upto_region 1 with fail
  rw [HW.out, HD.out]
  clear HW HD
  go_wp2_with fail
  refine r.mono ?_
  rintro e w2 ⟨rfl, hX2, hK2⟩
  have HX2 : Hid (BX K w2 p (st.start nm l a)) := hX2
  have HK2 : Hid (Kept K w w2) := HK.out.trans hK2
  clear r hX2 hK2 t0 t1 t2 t3 t4 t5
  go_wp2
  go_end0
  exact ⟨rfl, HX2.out, HK2.out⟩

set_option maxRecDepth 20000 in
set_option maxHeartbeats 1000000 in
theorem take2 (K : Nat → Prop) (p : Nat) (st : BS) (w : World) (h : BX K w p st) (hl : st.opn.length ≤ 100000) (hi : st.items.length ≤ 900000) (l : List Atr) (hn : st.flts.length + l.length ≤ 700000) (hsz : ∀ x ∈ l, x.name.length ≤ 1000000000 ∧ x.value.length ≤ 1000000000) (nm : List UInt8) (aa : Option Addr) (ac : Nat) (sf : Bool) (dt : List UInt8) (a : Nat) (ha : AtsIn K w aa l) :
    Calls Try.prog 23 #[.pointer (some ⟨p, 0, none⟩), tokV 2 nm aa l.length ac sf dt a] w fun e w' => e = .returned (.tuple #[]) ∧ BX K w' p (st.stop nm a) ∧ Kept K w w' := by
  show Calls Try.prog 23 #[.pointer (some ⟨p, 0, none⟩), .agg #[.int .u8 (2 : Int), .string ⟨nm.toArray⟩, .slice aa l.length ac, .bool sf, .string ⟨dt.toArray⟩, .int .i64 (a : Int)]] w _
  obtain ⟨S, hS⟩ : ∃ S : ByteArray, (⟨nm.toArray⟩ : ByteArray) = S := ⟨_, rfl⟩
  obtain ⟨D, hD⟩ : ∃ D : ByteArray, (⟨dt.toArray⟩ : ByteArray) = D := ⟨_, rfl⟩
  rw [hS, hD]
  obtain ⟨W, hW⟩ : ∃ W, w.alloc (.cells #[.int .u8 (2 : Int), .string S, .slice aa l.length ac, .bool sf, .string D, .int .i64 (a : Int)] 43) = W := ⟨_, rfl⟩
  obtain ⟨d, hd⟩ : ∃ d, w.heap.size = d := ⟨_, rfl⟩
  have kW : Kept (fun k => k < w.heap.size) w W := by rw [← hW]; exact (Kept.refl _ w).alloc (fun _ h => h) _
  have hcW : ∀ i u, #[.int .u8 (2 : Int), .string S, .slice aa l.length ac, .bool sf, .string D, .int .i64 (a : Int)].toList[i]? = some u → W.cell? ⟨d, i, none⟩ = some u := by
    intro i u hi
    rw [← hW, ← hd, cell_block (heap_alloc_new w _), ← Array.getElem?_toList]
    exact hi
  have hX : BX K W p st := h.kept kW
  have HX : Hid (BX K W p st) := hX
  have HK : Hid (Kept K w W) := kW.mono h.lt
  have haW : AtsIn K W aa l := ha.kept (kW.mono h.lt) fun _ h => h
  have HW : Hid (w.alloc (.cells #[.int .u8 (2 : Int), .string S, .slice aa l.length ac, .bool sf, .string D, .int .i64 (a : Int)] 43) = W) := hW
  have HD : Hid (w.heap.size = d) := hd
  have t0 := hcW 0 _ rfl
  have t1 := hcW 1 _ rfl
  have t2 := hcW 2 _ rfl
  have t3 := hcW 3 _ rfl
  have t4 := hcW 4 _ rfl
  have t5 := hcW 5 _ rfl
  have r := takeEnd_any K p st W hX hl hi (by omega) 2 nm aa l.length ac sf dt a
  rw [show tokV 2 nm aa l.length ac sf dt a = .agg #[.int .u8 2, .string S, .slice aa l.length ac, .bool sf, .string D, .int .i64 (a : Int)] by rw [← hS, ← hD]; rfl] at r
  have hu := And.intro hl (And.intro hi (And.intro hn hsz))
  clear hu
  clear h hW hd kW hcW ha hsz hX haW hS hD
  go_enter Try.func23, Try.ntmps23
  go_upto_region 1 with fail
  rw [HW.out, HD.out]
  clear HW HD
  go_wp2_with fail
  refine r.mono ?_
  rintro e w2 ⟨rfl, hX2, hK2⟩
  have HX2 : Hid (BX K w2 p (st.stop nm a)) := hX2
  have HK2 : Hid (Kept K w w2) := HK.out.trans hK2
  clear r hX2 hK2 t0 t1 t2 t3 t4 t5
  go_wp2
  go_end0
  exact ⟨rfl, HX2.out, HK2.out⟩

set_option maxRecDepth 20000 in
set_option maxHeartbeats 1000000 in
theorem take3 (K : Nat → Prop) (p : Nat) (st : BS) (w : World) (h : BX K w p st) (hl : st.opn.length ≤ 100000) (hi : st.items.length ≤ 900000) (l : List Atr) (hn : st.flts.length + l.length ≤ 700000) (hsz : ∀ x ∈ l, x.name.length ≤ 1000000000 ∧ x.value.length ≤ 1000000000) (nm : List UInt8) (aa : Option Addr) (ac : Nat) (sf : Bool) (dt : List UInt8) (a : Nat) (hdt : dt ≠ []) (ha : AtsIn K w aa l) :
    Calls Try.prog 23 #[.pointer (some ⟨p, 0, none⟩), tokV 3 nm aa l.length ac sf dt a] w fun e w' => e = .returned (.tuple #[]) ∧ BX K w' p (st.item 2 [] [] dt) ∧ Kept K w w' := by
  show Calls Try.prog 23 #[.pointer (some ⟨p, 0, none⟩), .agg #[.int .u8 (3 : Int), .string ⟨nm.toArray⟩, .slice aa l.length ac, .bool sf, .string ⟨dt.toArray⟩, .int .i64 (a : Int)]] w _
  obtain ⟨S, hS⟩ : ∃ S : ByteArray, (⟨nm.toArray⟩ : ByteArray) = S := ⟨_, rfl⟩
  obtain ⟨D, hD⟩ : ∃ D : ByteArray, (⟨dt.toArray⟩ : ByteArray) = D := ⟨_, rfl⟩
  rw [hS, hD]
  obtain ⟨W, hW⟩ : ∃ W, w.alloc (.cells #[.int .u8 (3 : Int), .string S, .slice aa l.length ac, .bool sf, .string D, .int .i64 (a : Int)] 43) = W := ⟨_, rfl⟩
  obtain ⟨d, hd⟩ : ∃ d, w.heap.size = d := ⟨_, rfl⟩
  have kW : Kept (fun k => k < w.heap.size) w W := by rw [← hW]; exact (Kept.refl _ w).alloc (fun _ h => h) _
  have hcW : ∀ i u, #[.int .u8 (3 : Int), .string S, .slice aa l.length ac, .bool sf, .string D, .int .i64 (a : Int)].toList[i]? = some u → W.cell? ⟨d, i, none⟩ = some u := by
    intro i u hi
    rw [← hW, ← hd, cell_block (heap_alloc_new w _), ← Array.getElem?_toList]
    exact hi
  have hX : BX K W p st := h.kept kW
  have HX : Hid (BX K W p st) := hX
  have HK : Hid (Kept K w W) := kW.mono h.lt
  have haW : AtsIn K W aa l := ha.kept (kW.mono h.lt) fun _ h => h
  have HW : Hid (w.alloc (.cells #[.int .u8 (3 : Int), .string S, .slice aa l.length ac, .bool sf, .string D, .int .i64 (a : Int)] 43) = W) := hW
  have HD : Hid (w.heap.size = d) := hd
  have t0 := hcW 0 _ rfl
  have t1 := hcW 1 _ rfl
  have t2 := hcW 2 _ rfl
  have t3 := hcW 3 _ rfl
  have t4 := hcW 4 _ rfl
  have t5 := hcW 5 _ rfl
  have r := badd_gen K p st W hX (by omega) 2 [] dt
  rw [show sv dt = .string D by rw [← hD]] at r
  have q1 : (D.toList == []) = false := by rw [ByteArray.toList_eq, ← hD]; simpa using hdt
  have hu := And.intro hl (And.intro hi (And.intro hn hsz))
  clear hu
  clear h hW hd kW hcW ha hsz hX haW hS hD
  go_enter Try.func23, Try.ntmps23
  go_upto_region 1 with fail
  rw [HW.out, HD.out]
  clear HW HD
  go_wp2_with fail
  refine r.mono ?_
  rintro e w2 ⟨rfl, hX2, hK2⟩
  have HX2 : Hid (BX K w2 p (st.item 2 [] [] dt)) := hX2
  have HK2 : Hid (Kept K w w2) := HK.out.trans hK2
  clear r hX2 hK2 t0 t1 t2 t3 t4 t5
  go_wp2
  go_end0
  exact ⟨rfl, HX2.out, HK2.out⟩

set_option maxRecDepth 20000 in
set_option maxHeartbeats 1000000 in
theorem take3e (K : Nat → Prop) (p : Nat) (st : BS) (w : World) (h : BX K w p st) (hl : st.opn.length ≤ 100000) (hi : st.items.length ≤ 900000) (l : List Atr) (hn : st.flts.length + l.length ≤ 700000) (hsz : ∀ x ∈ l, x.name.length ≤ 1000000000 ∧ x.value.length ≤ 1000000000) (nm : List UInt8) (aa : Option Addr) (ac : Nat) (sf : Bool) (dt : List UInt8) (a : Nat) (hdt : dt = []) (ha : AtsIn K w aa l) :
    Calls Try.prog 23 #[.pointer (some ⟨p, 0, none⟩), tokV 3 nm aa l.length ac sf dt a] w fun e w' => e = .returned (.tuple #[]) ∧ BX K w' p (st) ∧ Kept K w w' := by
  show Calls Try.prog 23 #[.pointer (some ⟨p, 0, none⟩), .agg #[.int .u8 (3 : Int), .string ⟨nm.toArray⟩, .slice aa l.length ac, .bool sf, .string ⟨dt.toArray⟩, .int .i64 (a : Int)]] w _
  obtain ⟨S, hS⟩ : ∃ S : ByteArray, (⟨nm.toArray⟩ : ByteArray) = S := ⟨_, rfl⟩
  obtain ⟨D, hD⟩ : ∃ D : ByteArray, (⟨dt.toArray⟩ : ByteArray) = D := ⟨_, rfl⟩
  rw [hS, hD]
  obtain ⟨W, hW⟩ : ∃ W, w.alloc (.cells #[.int .u8 (3 : Int), .string S, .slice aa l.length ac, .bool sf, .string D, .int .i64 (a : Int)] 43) = W := ⟨_, rfl⟩
  obtain ⟨d, hd⟩ : ∃ d, w.heap.size = d := ⟨_, rfl⟩
  have kW : Kept (fun k => k < w.heap.size) w W := by rw [← hW]; exact (Kept.refl _ w).alloc (fun _ h => h) _
  have hcW : ∀ i u, #[.int .u8 (3 : Int), .string S, .slice aa l.length ac, .bool sf, .string D, .int .i64 (a : Int)].toList[i]? = some u → W.cell? ⟨d, i, none⟩ = some u := by
    intro i u hi
    rw [← hW, ← hd, cell_block (heap_alloc_new w _), ← Array.getElem?_toList]
    exact hi
  have hX : BX K W p st := h.kept kW
  have HX : Hid (BX K W p st) := hX
  have HK : Hid (Kept K w W) := kW.mono h.lt
  have haW : AtsIn K W aa l := ha.kept (kW.mono h.lt) fun _ h => h
  have HW : Hid (w.alloc (.cells #[.int .u8 (3 : Int), .string S, .slice aa l.length ac, .bool sf, .string D, .int .i64 (a : Int)] 43) = W) := hW
  have HD : Hid (w.heap.size = d) := hd
  have t0 := hcW 0 _ rfl
  have t1 := hcW 1 _ rfl
  have t2 := hcW 2 _ rfl
  have t3 := hcW 3 _ rfl
  have t4 := hcW 4 _ rfl
  have t5 := hcW 5 _ rfl
  have q1 : (D.toList == []) = true := by rw [ByteArray.toList_eq, ← hD, hdt]; rfl
  have hu := And.intro hl (And.intro hi (And.intro hn hsz))
  clear hu
  clear h hW hd kW hcW ha hsz hX haW hS hD
  go_enter Try.func23, Try.ntmps23
  go_upto_region 1 with fail
  rw [HW.out, HD.out]
  clear HW HD
  go_wp2
  go_end0
  exact ⟨rfl, HX.out, HK.out⟩

set_option maxRecDepth 20000 in
set_option maxHeartbeats 1000000 in
theorem take4 (K : Nat → Prop) (p : Nat) (st : BS) (w : World) (h : BX K w p st) (hl : st.opn.length ≤ 100000) (hi : st.items.length ≤ 900000) (l : List Atr) (hn : st.flts.length + l.length ≤ 700000) (hsz : ∀ x ∈ l, x.name.length ≤ 1000000000 ∧ x.value.length ≤ 1000000000) (nm : List UInt8) (aa : Option Addr) (ac : Nat) (sf : Bool) (dt : List UInt8) (a : Nat) (ha : AtsIn K w aa l) :
    Calls Try.prog 23 #[.pointer (some ⟨p, 0, none⟩), tokV 4 nm aa l.length ac sf dt a] w fun e w' => e = .returned (.tuple #[]) ∧ BX K w' p (st.item 3 [] [] dt) ∧ Kept K w w' := by
  show Calls Try.prog 23 #[.pointer (some ⟨p, 0, none⟩), .agg #[.int .u8 (4 : Int), .string ⟨nm.toArray⟩, .slice aa l.length ac, .bool sf, .string ⟨dt.toArray⟩, .int .i64 (a : Int)]] w _
  obtain ⟨S, hS⟩ : ∃ S : ByteArray, (⟨nm.toArray⟩ : ByteArray) = S := ⟨_, rfl⟩
  obtain ⟨D, hD⟩ : ∃ D : ByteArray, (⟨dt.toArray⟩ : ByteArray) = D := ⟨_, rfl⟩
  rw [hS, hD]
  obtain ⟨W, hW⟩ : ∃ W, w.alloc (.cells #[.int .u8 (4 : Int), .string S, .slice aa l.length ac, .bool sf, .string D, .int .i64 (a : Int)] 43) = W := ⟨_, rfl⟩
  obtain ⟨d, hd⟩ : ∃ d, w.heap.size = d := ⟨_, rfl⟩
  have kW : Kept (fun k => k < w.heap.size) w W := by rw [← hW]; exact (Kept.refl _ w).alloc (fun _ h => h) _
  have hcW : ∀ i u, #[.int .u8 (4 : Int), .string S, .slice aa l.length ac, .bool sf, .string D, .int .i64 (a : Int)].toList[i]? = some u → W.cell? ⟨d, i, none⟩ = some u := by
    intro i u hi
    rw [← hW, ← hd, cell_block (heap_alloc_new w _), ← Array.getElem?_toList]
    exact hi
  have hX : BX K W p st := h.kept kW
  have HX : Hid (BX K W p st) := hX
  have HK : Hid (Kept K w W) := kW.mono h.lt
  have haW : AtsIn K W aa l := ha.kept (kW.mono h.lt) fun _ h => h
  have HW : Hid (w.alloc (.cells #[.int .u8 (4 : Int), .string S, .slice aa l.length ac, .bool sf, .string D, .int .i64 (a : Int)] 43) = W) := hW
  have HD : Hid (w.heap.size = d) := hd
  have t0 := hcW 0 _ rfl
  have t1 := hcW 1 _ rfl
  have t2 := hcW 2 _ rfl
  have t3 := hcW 3 _ rfl
  have t4 := hcW 4 _ rfl
  have t5 := hcW 5 _ rfl
  have r := badd_gen K p st W hX (by omega) 3 [] dt
  rw [show sv dt = .string D by rw [← hD]] at r
  have hu := And.intro hl (And.intro hi (And.intro hn hsz))
  clear hu
  clear h hW hd kW hcW ha hsz hX haW hS hD
  go_enter Try.func23, Try.ntmps23
  go_upto_region 1 with fail
  rw [HW.out, HD.out]
  clear HW HD
  go_wp2_with fail
  refine r.mono ?_
  rintro e w2 ⟨rfl, hX2, hK2⟩
  have HX2 : Hid (BX K w2 p (st.item 3 [] [] dt)) := hX2
  have HK2 : Hid (Kept K w w2) := HK.out.trans hK2
  clear r hX2 hK2 t0 t1 t2 t3 t4 t5
  go_wp2
  go_end0
  exact ⟨rfl, HX2.out, HK2.out⟩

set_option maxRecDepth 20000 in
set_option maxHeartbeats 1000000 in
theorem take5 (K : Nat → Prop) (p : Nat) (st : BS) (w : World) (h : BX K w p st) (hl : st.opn.length ≤ 100000) (hi : st.items.length ≤ 900000) (l : List Atr) (hn : st.flts.length + l.length ≤ 700000) (hsz : ∀ x ∈ l, x.name.length ≤ 1000000000 ∧ x.value.length ≤ 1000000000) (nm : List UInt8) (aa : Option Addr) (ac : Nat) (sf : Bool) (dt : List UInt8) (a : Nat) (hit : st.items = []) (ha : AtsIn K w aa l) :
    Calls Try.prog 23 #[.pointer (some ⟨p, 0, none⟩), tokV 5 nm aa l.length ac sf dt a] w fun e w' => e = .returned (.tuple #[]) ∧ BX K w' p (st.item 6 nm [] []) ∧ Kept K w w' := by
  show Calls Try.prog 23 #[.pointer (some ⟨p, 0, none⟩), .agg #[.int .u8 (5 : Int), .string ⟨nm.toArray⟩, .slice aa l.length ac, .bool sf, .string ⟨dt.toArray⟩, .int .i64 (a : Int)]] w _
  obtain ⟨S, hS⟩ : ∃ S : ByteArray, (⟨nm.toArray⟩ : ByteArray) = S := ⟨_, rfl⟩
  obtain ⟨D, hD⟩ : ∃ D : ByteArray, (⟨dt.toArray⟩ : ByteArray) = D := ⟨_, rfl⟩
  rw [hS, hD]
  obtain ⟨W, hW⟩ : ∃ W, w.alloc (.cells #[.int .u8 (5 : Int), .string S, .slice aa l.length ac, .bool sf, .string D, .int .i64 (a : Int)] 43) = W := ⟨_, rfl⟩
  obtain ⟨d, hd⟩ : ∃ d, w.heap.size = d := ⟨_, rfl⟩
  have kW : Kept (fun k => k < w.heap.size) w W := by rw [← hW]; exact (Kept.refl _ w).alloc (fun _ h => h) _
  have hcW : ∀ i u, #[.int .u8 (5 : Int), .string S, .slice aa l.length ac, .bool sf, .string D, .int .i64 (a : Int)].toList[i]? = some u → W.cell? ⟨d, i, none⟩ = some u := by
    intro i u hi
    rw [← hW, ← hd, cell_block (heap_alloc_new w _), ← Array.getElem?_toList]
    exact hi
  have hX : BX K W p st := h.kept kW
  have HX : Hid (BX K W p st) := hX
  have HK : Hid (Kept K w W) := kW.mono h.lt
  have haW : AtsIn K W aa l := ha.kept (kW.mono h.lt) fun _ h => h
  have HW : Hid (w.alloc (.cells #[.int .u8 (5 : Int), .string S, .slice aa l.length ac, .bool sf, .string D, .int .i64 (a : Int)] 43) = W) := hW
  have HD : Hid (w.heap.size = d) := hd
  have t0 := hcW 0 _ rfl
  have t1 := hcW 1 _ rfl
  have t2 := hcW 2 _ rfl
  have t3 := hcW 3 _ rfl
  have t4 := hcW 4 _ rfl
  have t5 := hcW 5 _ rfl
  have r := badd_gen K p st W hX (by omega) 6 nm []
  rw [show sv nm = .string S by rw [← hS]] at r
  obtain ⟨oa, oc, ia, ic, fa, fc, -, k1, -⟩ := hX.cells
  rw [show st.items.length = 0 by rw [hit]; rfl] at k1
  have hu := And.intro hl (And.intro hi (And.intro hn hsz))
  clear hu
  clear h hW hd kW hcW ha hsz hX haW hS hD
  go_enter Try.func23, Try.ntmps23
  go_upto_region 1 with fail
  rw [HW.out, HD.out]
  clear HW HD
  go_wp2_with fail
  refine r.mono ?_
  rintro e w2 ⟨rfl, hX2, hK2⟩
  have HX2 : Hid (BX K w2 p (st.item 6 nm [] [])) := hX2
  have HK2 : Hid (Kept K w w2) := HK.out.trans hK2
  clear r hX2 hK2 t0 t1 t2 t3 t4 t5
  go_wp2
  go_end0
  exact ⟨rfl, HX2.out, HK2.out⟩

set_option maxRecDepth 20000 in
set_option maxHeartbeats 1000000 in
theorem take5f (K : Nat → Prop) (p : Nat) (st : BS) (w : World) (h : BX K w p st) (hl : st.opn.length ≤ 100000) (hi : st.items.length ≤ 900000) (l : List Atr) (hn : st.flts.length + l.length ≤ 700000) (hsz : ∀ x ∈ l, x.name.length ≤ 1000000000 ∧ x.value.length ≤ 1000000000) (nm : List UInt8) (aa : Option Addr) (ac : Nat) (sf : Bool) (dt : List UInt8) (a : Nat) (hit : st.items ≠ []) (ha : AtsIn K w aa l) :
    Calls Try.prog 23 #[.pointer (some ⟨p, 0, none⟩), tokV 5 nm aa l.length ac sf dt a] w fun e w' => e = .returned (.tuple #[]) ∧ BX K w' p (st.flt 8 a) ∧ Kept K w w' := by
  show Calls Try.prog 23 #[.pointer (some ⟨p, 0, none⟩), .agg #[.int .u8 (5 : Int), .string ⟨nm.toArray⟩, .slice aa l.length ac, .bool sf, .string ⟨dt.toArray⟩, .int .i64 (a : Int)]] w _
  obtain ⟨S, hS⟩ : ∃ S : ByteArray, (⟨nm.toArray⟩ : ByteArray) = S := ⟨_, rfl⟩
  obtain ⟨D, hD⟩ : ∃ D : ByteArray, (⟨dt.toArray⟩ : ByteArray) = D := ⟨_, rfl⟩
  rw [hS, hD]
  obtain ⟨W, hW⟩ : ∃ W, w.alloc (.cells #[.int .u8 (5 : Int), .string S, .slice aa l.length ac, .bool sf, .string D, .int .i64 (a : Int)] 43) = W := ⟨_, rfl⟩
  obtain ⟨d, hd⟩ : ∃ d, w.heap.size = d := ⟨_, rfl⟩
  have kW : Kept (fun k => k < w.heap.size) w W := by rw [← hW]; exact (Kept.refl _ w).alloc (fun _ h => h) _
  have hcW : ∀ i u, #[.int .u8 (5 : Int), .string S, .slice aa l.length ac, .bool sf, .string D, .int .i64 (a : Int)].toList[i]? = some u → W.cell? ⟨d, i, none⟩ = some u := by
    intro i u hi
    rw [← hW, ← hd, cell_block (heap_alloc_new w _), ← Array.getElem?_toList]
    exact hi
  have hX : BX K W p st := h.kept kW
  have HX : Hid (BX K W p st) := hX
  have HK : Hid (Kept K w W) := kW.mono h.lt
  have haW : AtsIn K W aa l := ha.kept (kW.mono h.lt) fun _ h => h
  have HW : Hid (w.alloc (.cells #[.int .u8 (5 : Int), .string S, .slice aa l.length ac, .bool sf, .string D, .int .i64 (a : Int)] 43) = W) := hW
  have HD : Hid (w.heap.size = d) := hd
  have t0 := hcW 0 _ rfl
  have t1 := hcW 1 _ rfl
  have t2 := hcW 2 _ rfl
  have t3 := hcW 3 _ rfl
  have t4 := hcW 4 _ rfl
  have t5 := hcW 5 _ rfl
  have r := bfault_any K p st W hX (by omega) 8 5 nm aa l.length ac sf dt a
  rw [show tokV 5 nm aa l.length ac sf dt a = .agg #[.int .u8 5, .string S, .slice aa l.length ac, .bool sf, .string D, .int .i64 (a : Int)] by rw [← hS, ← hD]; rfl] at r
  obtain ⟨oa, oc, ia, ic, fa, fc, -, k1, -⟩ := hX.cells
  have hpos : 0 < st.items.length := List.length_pos_iff.2 hit
  obtain ⟨n, hne⟩ : ∃ n, st.items.length = n := ⟨_, rfl⟩
  rw [hne] at k1 hpos hi
  have hp : decide ((n : Int) > 0) = true := decide_eq_true (by omega)
  clear hne
  have hu := And.intro hl (And.intro hi (And.intro hn hsz))
  clear hu
  clear h hW hd kW hcW ha hsz hX haW hS hD
  go_enter Try.func23, Try.ntmps23
  go_upto_region 1 with fail
  rw [HW.out, HD.out]
  clear HW HD
  go_wp2_with fail
  refine r.mono ?_
  rintro e w2 ⟨rfl, hX2, hK2⟩
  have HX2 : Hid (BX K w2 p (st.flt 8 a)) := hX2
  have HK2 : Hid (Kept K w w2) := HK.out.trans hK2
  clear r hX2 hK2 t0 t1 t2 t3 t4 t5
  go_wp2
  refine bodyPost_ret (results_none rfl _ _ _) rfl ?_
  exact ⟨rfl, HX2.out, HK2.out⟩

set_option maxRecDepth 20000 in
set_option maxHeartbeats 1000000 in
theorem take0 (K : Nat → Prop) (p : Nat) (st : BS) (w : World) (h : BX K w p st) (hl : st.opn.length ≤ 100000) (hi : st.items.length ≤ 900000) (l : List Atr) (hn : st.flts.length + l.length ≤ 700000) (hsz : ∀ x ∈ l, x.name.length ≤ 1000000000 ∧ x.value.length ≤ 1000000000) (nm : List UInt8) (aa : Option Addr) (ac : Nat) (sf : Bool) (dt : List UInt8) (a : Nat) (kd : Nat) (n1 : kd ≠ 1) (n2 : kd ≠ 2) (n3 : kd ≠ 3) (n4 : kd ≠ 4) (n5 : kd ≠ 5) (ha : AtsIn K w aa l) :
    Calls Try.prog 23 #[.pointer (some ⟨p, 0, none⟩), tokV kd nm aa l.length ac sf dt a] w fun e w' => e = .returned (.tuple #[]) ∧ BX K w' p (st) ∧ Kept K w w' := by
  show Calls Try.prog 23 #[.pointer (some ⟨p, 0, none⟩), .agg #[.int .u8 (kd : Int), .string ⟨nm.toArray⟩, .slice aa l.length ac, .bool sf, .string ⟨dt.toArray⟩, .int .i64 (a : Int)]] w _
  obtain ⟨S, hS⟩ : ∃ S : ByteArray, (⟨nm.toArray⟩ : ByteArray) = S := ⟨_, rfl⟩
  obtain ⟨D, hD⟩ : ∃ D : ByteArray, (⟨dt.toArray⟩ : ByteArray) = D := ⟨_, rfl⟩
  rw [hS, hD]
  obtain ⟨W, hW⟩ : ∃ W, w.alloc (.cells #[.int .u8 (kd : Int), .string S, .slice aa l.length ac, .bool sf, .string D, .int .i64 (a : Int)] 43) = W := ⟨_, rfl⟩
  obtain ⟨d, hd⟩ : ∃ d, w.heap.size = d := ⟨_, rfl⟩
  have kW : Kept (fun k => k < w.heap.size) w W := by rw [← hW]; exact (Kept.refl _ w).alloc (fun _ h => h) _
  have hcW : ∀ i u, #[.int .u8 (kd : Int), .string S, .slice aa l.length ac, .bool sf, .string D, .int .i64 (a : Int)].toList[i]? = some u → W.cell? ⟨d, i, none⟩ = some u := by
    intro i u hi
    rw [← hW, ← hd, cell_block (heap_alloc_new w _), ← Array.getElem?_toList]
    exact hi
  have hX : BX K W p st := h.kept kW
  have HX : Hid (BX K W p st) := hX
  have HK : Hid (Kept K w W) := kW.mono h.lt
  have haW : AtsIn K W aa l := ha.kept (kW.mono h.lt) fun _ h => h
  have HW : Hid (w.alloc (.cells #[.int .u8 (kd : Int), .string S, .slice aa l.length ac, .bool sf, .string D, .int .i64 (a : Int)] 43) = W) := hW
  have HD : Hid (w.heap.size = d) := hd
  have t0 := hcW 0 _ rfl
  have t1 := hcW 1 _ rfl
  have t2 := hcW 2 _ rfl
  have t3 := hcW 3 _ rfl
  have t4 := hcW 4 _ rfl
  have t5 := hcW 5 _ rfl
  have q1 : ((kd : Int) == 1) = false := by
    have : (kd : Int) ≠ 1 := by omega
    simpa using this
  have q2 : ((kd : Int) == 2) = false := by
    have : (kd : Int) ≠ 2 := by omega
    simpa using this
  have q3 : ((kd : Int) == 3) = false := by
    have : (kd : Int) ≠ 3 := by omega
    simpa using this
  have q4 : ((kd : Int) == 4) = false := by
    have : (kd : Int) ≠ 4 := by omega
    simpa using this
  have q5 : ((kd : Int) == 5) = false := by
    have : (kd : Int) ≠ 5 := by omega
    simpa using this
  have hu := And.intro hl (And.intro hi (And.intro hn hsz))
  clear hu
  clear h hW hd kW hcW ha hsz hX haW hS hD
  clear n1 n2 n3 n4 n5
  go_enter Try.func23, Try.ntmps23
  go_upto_region 1 with fail
  rw [HW.out, HD.out]
  clear HW HD
  go_wp2
  go_end0
  exact ⟨rfl, HX.out, HK.out⟩

theorem take_any (K : Nat → Prop) (p : Nat) (st : BS) (w : World) (h : BX K w p st) (hl : st.opn.length ≤ 100000) (hi : st.items.length ≤ 900000) (t : Tk) (hn : st.flts.length + t.attrs.length ≤ 700000) (hsz : ∀ x ∈ t.attrs, x.name.length ≤ 1000000000 ∧ x.value.length ≤ 1000000000) (aa : Option Addr) (ac : Nat) (ha : AtsIn K w aa t.attrs) :
    Calls Try.prog 23 #[.pointer (some ⟨p, 0, none⟩), tokV t.kind t.name aa t.attrs.length ac t.self t.data t.pl] w fun e w' => e = .returned (.tuple #[]) ∧ BX K w' p (st.take t) ∧ Kept K w w' := by
  obtain ⟨kd, nm, l, sf, dt, a⟩ := t
  dsimp only at hn hsz ha ⊢
  unfold BS.take
  dsimp only
  by_cases c1 : kd = 1
  · subst c1; rw [if_pos rfl]; exact take1 K p st w h hl hi l hn hsz nm aa ac sf dt a ha
  rw [if_neg c1]
  by_cases c2 : kd = 2
  · subst c2; rw [if_pos rfl]; exact take2 K p st w h hl hi l hn hsz nm aa ac sf dt a ha
  rw [if_neg c2]
  by_cases c3 : kd = 3
  · subst c3
    rw [if_pos rfl]
    by_cases e : dt = []
    · rw [if_pos e]; exact take3e K p st w h hl hi l hn hsz nm aa ac sf dt a e ha
    · rw [if_neg e]; exact take3 K p st w h hl hi l hn hsz nm aa ac sf dt a e ha
  rw [if_neg c3]
  by_cases c4 : kd = 4
  · subst c4; rw [if_pos rfl]; exact take4 K p st w h hl hi l hn hsz nm aa ac sf dt a ha
  rw [if_neg c4]
  by_cases c5 : kd = 5
  · subst c5
    rw [if_pos rfl]
    by_cases e : st.items = []
    · rw [if_pos e]; exact take5 K p st w h hl hi l hn hsz nm aa ac sf dt a e ha
    · rw [if_neg e]; exact take5f K p st w h hl hi l hn hsz nm aa ac sf dt a e ha
  rw [if_neg c5]
  exact take0 K p st w h hl hi l hn hsz nm aa ac sf dt a kd c1 c2 c3 c4 c5 ha
end Go.Proofs.Ytffllhohlfblnaa

namespace Go.Proofs.Ytffllhohlfblnaa
open Go.RowKit Go.Sort

/-- Items lie at a slice. -/
def ItsIn (w : World) (ia : Option Addr) (l : List It) : Prop :=
  ∀ j (_ : j < l.length), ∃ g aa ac, ia = some ⟨g, 0, none⟩ ∧ g < w.heap.size ∧ AtsIn (fun k => k < w.heap.size) w aa l[j].attrs ∧ l[j].attrs.length ≤ ac ∧ ∀ i u, (itCells l[j] aa ac)[i]? = some u → w.cell? ⟨g, j * 5 + i, none⟩ = some u
theorem ItsIn.kept {w w' : World} {ia : Option Addr} {l : List It} (h : ItsIn w ia l) (hk : Kept (fun k => k < w.heap.size) w w') : ItsIn w' ia l := fun j hj => by
  obtain ⟨g, aa, ac, h1, h2, h3, h4, h5⟩ := h j hj
  exact ⟨g, aa, ac, h1, Nat.lt_of_lt_of_le h2 hk.size, h3.kept hk fun k h => Nat.lt_of_lt_of_le h hk.size, h4, fun i u hi => by rw [hk.cell (p := ⟨g, j * 5 + i, none⟩) h2]; exact h5 i u hi⟩
theorem BX.read {K : Nat → Prop} {w : World} {p : Nat} {st : BS} (h : BX K w p st) : ∃ ia ic fa fc, w.cell? ⟨p, 1, none⟩ = some (.slice ia st.items.length ic) ∧ w.cell? ⟨p, 2, none⟩ = some (.slice fa st.flts.length fc) ∧ ItsIn w ia st.items ∧ FltsIn (fun k => k < w.heap.size) w fa st.flts ∧ st.items.length ≤ ic ∧ st.flts.length ≤ fc := by
  obtain ⟨h1, h2, A, oa, oc, ia, ic, ics, fa, fc, hA, hb, hS, hr⟩ := h
  have hi : OwnZ _ w 38 5 ia st.items.length ic ics := hS.1 1 _ rfl
  have hf : OwnZ _ w 48 2 fa st.flts.length fc (fltCells st.flts) := hS.1 2 _ rfl
  refine ⟨ia, ic, fa, fc, by rw [cell_block hb]; rfl, by rw [cell_block hb]; rfl, fun j hj => ?_, fun j hj => ?_, hi.2.1, hf.2.1⟩
  · obtain ⟨aa, ac, q1, q2, q3⟩ := hr.get j hj
    obtain ⟨g, e, -⟩ := hi.cell (q3 0 _ rfl)
    refine ⟨g, aa, ac, e, (hi.out e).2, q1.kept (Kept.refl _ _) fun k hk => (hA k hk).1, q2, fun i u hu => ?_⟩
    obtain ⟨g', e', c⟩ := hi.cell (q3 i u hu)
    rw [e] at e'
    injection e' with e'
    injection e' with e'
    subst e'
    exact c
  · obtain ⟨g0, g1⟩ := fltCells_get st.flts j hj
    obtain ⟨g, e1, c0⟩ := hf.cell g0
    obtain ⟨g', e2, c1⟩ := hf.cell g1
    rw [e1] at e2
    injection e2 with e2
    injection e2 with e2
    subst e2
    exact ⟨g, e1, (hf.out e1).2, c0, c1⟩

/-- How many faults a token may make. -/
def wtT (t : Tk) : Nat := t.attrs.length + 2
def wtL (l : List Tk) : Nat := (l.map wtT).sum
theorem wtL_cons (t : Tk) (l : List Tk) : wtL (t :: l) = wtT t + wtL l := by simp [wtL]
theorem start_b (b : BS) (n : List UInt8) (l : List Atr) (a : Nat) (h : b.opn.length ≤ 100) : (b.start n l a).opn.length ≤ 100 ∧ (b.start n l a).items.length ≤ b.items.length + 1 ∧ (b.start n l a).flts.length ≤ b.flts.length + l.length + 1 := by
  have h1 := first_b b n a
  have h2 := para_b (b.first n a) n
  unfold BS.start
  split
  · unfold BS.open1
    split
    · rename_i hc
      refine ⟨?_, ?_, ?_⟩
      · show (((b.first n a).para n).opn ++ [n]).length ≤ 100
        have := hc.2
        have e : (((((b.first n a).para n).flts' (l.length - (keepA [] l).length) 5 a).item 1 n (keepA [] l) [])).opn.length = ((b.first n a).para n).opn.length := rfl
        rw [e] at this
        simp
        omega
      · show (((b.first n a).para n).items ++ [_]).length ≤ _
        rw [h2.2.2, h1.2.2]
        simp
      · show (((b.first n a).para n).flts ++ _).length ≤ _
        rw [h2.2.1]
        simp
        omega
    · refine ⟨?_, ?_, ?_⟩
      · show ((b.first n a).para n).opn.length ≤ 100
        omega
      · show (((b.first n a).para n).items ++ [_]).length ≤ _
        rw [h2.2.2, h1.2.2]
        simp
      · show (((b.first n a).para n).flts ++ _).length ≤ _
        rw [h2.2.1]
        simp
        omega
  · refine ⟨h, Nat.le_succ _, ?_⟩
    show (b.flts ++ [_]).length ≤ _
    simp
theorem stop_b (b : BS) (n : List UInt8) (a : Nat) (h : b.opn.length ≤ 100) : (b.stop n a).opn.length ≤ 100 ∧ (b.stop n a).items.length ≤ b.items.length + 1 ∧ (b.stop n a).flts.length ≤ b.flts.length + 1 := by
  have h1 := fin_opn b (soughtBy n) (barredBy n)
  cases hq : seek (soughtBy n) (barredBy n) b.opn with
  | none =>
    rw [stop_none hq]
    split
    · refine ⟨h, ?_, ?_⟩
      · show (b.items ++ [_]).length ≤ _
        simp
      · show (b.flts ++ [_]).length ≤ _
        simp
    · refine ⟨h, Nat.le_succ _, ?_⟩
      show (b.flts ++ [_]).length ≤ _
      simp
  | some k =>
    rw [stop_some hq]
    split
    · exact ⟨by omega, by rw [h1.2.2]; omega, by rw [h1.2.1]; omega⟩
    · refine ⟨?_, ?_, ?_⟩
      · show (b.fin (soughtBy n) (barredBy n)).opn.length ≤ 100
        omega
      · show (b.fin (soughtBy n) (barredBy n)).items.length ≤ _
        rw [h1.2.2]
        omega
      · show ((b.fin (soughtBy n) (barredBy n)).flts ++ [_]).length ≤ _
        rw [h1.2.1]
        simp
theorem take_b (b : BS) (t : Tk) (h : b.opn.length ≤ 100) : (b.take t).opn.length ≤ 100 ∧ (b.take t).items.length ≤ b.items.length + 1 ∧ (b.take t).flts.length ≤ b.flts.length + wtT t := by
  unfold BS.take wtT
  split
  · have := start_b b t.name t.attrs t.pl h
    exact ⟨this.1, this.2.1, by omega⟩
  split
  · have := stop_b b t.name t.pl h
    exact ⟨this.1, this.2.1, by omega⟩
  split
  · split
    · exact ⟨h, Nat.le_succ _, by omega⟩
    · refine ⟨h, ?_, ?_⟩
      · show (b.items ++ [_]).length ≤ _
        simp
      · show b.flts.length ≤ _
        omega
  split
  · refine ⟨h, ?_, ?_⟩
    · show (b.items ++ [_]).length ≤ _
      simp
    · show b.flts.length ≤ _
      omega
  split
  · split
    · refine ⟨h, ?_, ?_⟩
      · show (b.items ++ [_]).length ≤ _
        simp
      · show b.flts.length ≤ _
        omega
    · refine ⟨h, Nat.le_succ _, ?_⟩
      show (b.flts ++ [_]).length ≤ _
      simp
  · exact ⟨h, Nat.le_succ _, by omega⟩

/-- What Build answers, for what is built. -/
def Answ (w : World) (e : Ending) : Option BS → Prop
  | none => e = .returned (.tuple #[.slice none 0 0, .slice none 0 0, .int .u16 3])
  | some b => ∃ ia ic fa fc, e = .returned (.tuple #[.slice ia b.items.length ic, .slice fa b.flts.length fc, .int .u16 0]) ∧ ItsIn w ia b.items ∧ FltsIn (fun k => k < w.heap.size) w fa b.flts ∧ b.items.length ≤ ic ∧ b.flts.length ≤ fc

set_option maxRecDepth 20000 in
set_option maxHeartbeats 2000000 in
theorem build_any (l : List Tk) (la : Option Addr) (n cap : Nat) (hln : l.length = n) (hn : n ≤ 500000) (hw : wtL l ≤ 600000) (hsz : ∀ t ∈ l, ∀ x ∈ t.attrs, x.name.length ≤ 1000000000 ∧ x.value.length ≤ 1000000000) (w : World) (h : ToksIn (fun k => k < w.heap.size) w la l) :
    Calls Try.prog 11 #[.slice la n cap] w fun e w' => Answ w' e (buildL l) ∧ Kept (fun k => k < w.heap.size) w w' := by
  obtain ⟨p, hp⟩ : ∃ p, w.heap.size = p := ⟨_, rfl⟩
  obtain ⟨W, hW⟩ : ∃ W, w.alloc (.cells #[.slice none 0 0, .slice none 0 0, .slice none 0 0] 63) = W := ⟨_, rfl⟩
  have kW : Kept (fun k => k < w.heap.size) w W := by rw [← hW]; exact (Kept.refl _ w).alloc (fun _ h => h) _
  have hX : BX (fun k => k < w.heap.size) W p BS.new := by
    refine ⟨fun k hk => Nat.lt_of_lt_of_le hk kW.size, by rw [hp]; exact Nat.lt_irrefl _, fun _ => False, none, 0, none, 0, [], none, 0, fun _ h => h.elim, ?_, ?_, rfl⟩
    · rw [← hW, ← hp]
      exact heap_alloc_new w _
    · refine Sep.cons (Sep.cons (Sep.cons (Sep.nil _ _) (OwnZ.nil _ _ _ _) ?_) (OwnZ.nil _ _ _ _) ?_) (OwnZ.nil _ _ _ _) ?_
      all_goals
        intro i s _ g hg
        cases hg
  obtain ⟨R, hR⟩ : ∃ R, buildL l = R := ⟨_, rfl⟩
  rw [hR]
  have HR : Hid (buildF BS.new (l.drop 0) = R) := hR
  have HX : Hid (BX (fun k => k < w.heap.size) W p BS.new) := hX
  have HK : Hid (Kept (fun k => k < w.heap.size) w W) := kW
  have HT : Hid (ToksIn (fun k => k < w.heap.size) w la l) := h
  have HL : Hid (l.length = n) := hln
  have HS : Hid (∀ t ∈ l, ∀ x ∈ t.attrs, x.name.length ≤ 1000000000 ∧ x.value.length ≤ 1000000000) := hsz
  have HW : Hid (w.alloc (.cells #[.slice none 0 0, .slice none 0 0, .slice none 0 0] 63) = W) := hW
  have HP : Hid (w.heap.size = p) := hp
  have HB : Hid (wtL (l.drop 0) ≤ 600000) := hw
  clear hp hW kW hX hR h hln hsz hw
  go_enter Try.func11, Try.ntmps11
  go_upto_region 3 with fail
  rw [HW.out, HP.out]
  clear HW HP
  go_loopg [10] n (fun g v wr => ∃ (k : Nat) (st : BS), g = n - k ∧ k ≤ n ∧ v = .int .i64 k ∧ buildF st (l.drop k) = R ∧ BX (fun k => k < w.heap.size) wr p st ∧ st.opn.length ≤ 100 ∧ st.items.length ≤ k ∧ st.flts.length + wtL (l.drop k) ≤ 600000 ∧ Kept (fun k => k < w.heap.size) w wr)
  case atStart => exact ⟨0, BS.new, rfl, Nat.zero_le _, rfl, HR.out, HX.out, Nat.zero_le _, Nat.zero_le _, by show 0 + _ ≤ _; have := HB.out; omega, HK.out⟩
  case round =>
    clear HR HX HK HB
    obtain ⟨k, st, hgk, hk, rfl, hRk, hXk, ho, hi, hf, hKk⟩ := hrel
    have HR : Hid (buildF st (l.drop k) = R) := hRk
    have HX : Hid (BX (fun k => k < w.heap.size) wr p st) := hXk
    have HK : Hid (Kept (fun k => k < w.heap.size) w wr) := hKk
    clear hRk hXk hKk
    by_cases hlt : k < n
    · have hl : k < l.length := by rw [HL.out]; exact hlt
      obtain ⟨g, aa, ac, hg, hgl, hA, c0, c1, c2, c3, c4, c5⟩ := HT.out k hl
      subst hg
      have e : ∀ i, wr.cell? ⟨g, i, none⟩ = w.cell? ⟨g, i, none⟩ := fun i => HK.out.cell (p := ⟨g, i, none⟩) hgl
      rw [← e] at c0 c1 c2 c3 c4 c5
      have hdr : l.drop k = l[k] :: l.drop (k + 1) := List.drop_eq_getElem_cons hl
      have HRk := HR.out
      rw [hdr] at HRk
      rw [hdr, wtL_cons] at hf
      have hb := take_b st l[k] ho
      have hwt : l[k].attrs.length + 2 = wtT l[k] := rfl
      have hszk := HS.out l[k] (List.getElem_mem hl)
      obtain ⟨t, ht⟩ : ∃ t, l[k] = t := ⟨_, rfl⟩
      rw [ht] at c0 c1 c2 c3 c4 c5 hA HRk hf hb hwt hszk
      have HRK : Hid ((if (st.take t).full = true then none else buildF (st.take t) (l.drop (k + 1))) = R) := HRk
      have HBD : Hid ((st.take t).opn.length ≤ 100 ∧ (st.take t).items.length ≤ k + 1 ∧ (st.take t).flts.length + wtL (l.drop (k + 1)) ≤ 600000) := ⟨hb.1, by omega, by omega⟩
      obtain ⟨kd, nm, at_, sf, dt, a⟩ := t
      dsimp only at c0 c1 c2 c3 c4 c5 hA hwt hszk
      obtain ⟨V, hV⟩ : ∃ V, wr.alloc (.cells #[.int .u8 (kd : Int), sv nm, .slice aa at_.length ac, .bool sf, sv dt, .int .i64 (a : Int)] 43) = V := ⟨_, rfl⟩
      have kV : Kept (fun k => k < wr.heap.size) wr V := by rw [← hV]; exact (Kept.refl _ wr).alloc (fun _ h => h) _
      have r := take_any (fun k => k < w.heap.size) p st V (HX.out.kept kV) (by omega) (by omega) ⟨kd, nm, at_, sf, dt, a⟩ (by show _ + at_.length ≤ _; omega) hszk aa ac (hA.kept (HK.out.trans (kV.mono fun k h => Nat.lt_of_lt_of_le h HK.out.size)) fun _ h => h)
      dsimp only at r
      have HKV : Hid (Kept (fun k => k < w.heap.size) w V) := HK.out.trans (kV.mono fun k h => Nat.lt_of_lt_of_le h HK.out.size)
      have HV : Hid (wr.alloc (.cells #[.int .u8 (kd : Int), sv nm, .slice aa at_.length ac, .bool sf, sv dt, .int .i64 (a : Int)] 43) = V) := hV
      obtain ⟨st', hst'⟩ : ∃ s, st.take ⟨kd, nm, at_, sf, dt, a⟩ = s := ⟨_, rfl⟩
      rw [hst'] at r HRK HBD
      obtain ⟨m, hm⟩ : ∃ m, at_.length = m := ⟨_, rfl⟩
      rw [hm] at r c2 HV
      clear hV kV hst' hm hszk hwt hb hf hdr e hA hgl HRk ht HR HX HK ho hi
      go_wp2_with fail
      have hv : wr.alloc (.cells #[.int .u8 (kd : Int), .string ⟨nm.toArray⟩, .slice aa m ac, .bool sf, .string ⟨dt.toArray⟩, .int .i64 (a : Int)] 43) = V := HV.out
      rw [hv]
      clear hv
      refine r.mono ?_
      rintro e w2 ⟨rfl, hX2, hK2⟩
      have HX2 : Hid (BX (fun k => k < w.heap.size) w2 p st') := hX2
      have HK2 : Hid (Kept (fun k => k < w.heap.size) w w2) := HKV.out.trans hK2
      have r2 := overfull_any (fun k => k < w.heap.size) p st' w2 hX2 (by have := HBD.out; omega)
      obtain ⟨q, hq⟩ : ∃ q, st'.full = q := ⟨_, rfl⟩
      rw [hq] at r2
      have HRK2 := HRK.out
      rw [hq] at HRK2
      have HR2 : Hid ((if q = true then none else buildF st' (l.drop (k + 1))) = R) := HRK2
      clear r hX2 hK2 HKV HV HRK HRK2 hq c0 c1 c2 c3 c4 c5
      go_wp2_with fail
      refine r2.mono ?_
      rintro e w3 ⟨rfl, rfl⟩
      clear r2
      cases q with
      | true =>
        have hR : R = none := HR2.out.symm
        subst hR
        clear HR2
        go_wp2
        go_ret3
        exact ⟨rfl, HK2.out⟩
      | false =>
        have hR2 := HR2.out
        rw [if_neg Bool.false_ne_true] at hR2
        have HR3 : Hid (buildF st' (l.drop (k + 1)) = R) := hR2
        clear HR2 hR2
        go_wp2
        go_roundg (n - (k + 1))
        case rel => exact ⟨k + 1, st', rfl, by omega, by go_num, HR3.out, HX2.out, HBD.out.1, HBD.out.2.1, HBD.out.2.2, HK2.out⟩
        case measure => omega
    · have hkk : k = n := by omega
      subst hkk
      have hR : R = some st := by
        rw [← HR.out, List.drop_eq_nil_of_le (by rw [HL.out]; exact Nat.le_refl _)]
        rfl
      subst hR
      clear HR
      obtain ⟨ia, ic, fa, fc, k1, k2, hI, hF, h5, h6⟩ := HX.out.read
      have HI : Hid (ItsIn wr ia st.items ∧ FltsIn (fun k => k < wr.heap.size) wr fa st.flts ∧ st.items.length ≤ ic ∧ st.flts.length ≤ fc) := ⟨hI, hF, h5, h6⟩
      obtain ⟨n1, hn1⟩ : ∃ n1, st.items.length = n1 := ⟨_, rfl⟩
      obtain ⟨n2, hn2⟩ : ∃ n2, st.flts.length = n2 := ⟨_, rfl⟩
      have HN1 : Hid (st.items.length = n1 ∧ st.flts.length = n2) := ⟨hn1, hn2⟩
      rw [hn1] at k1
      rw [hn2] at k2
      clear hI hF h5 h6 hn1 hn2 hf hi ho HX
      go_wp2_with fail
      go_quiet (fail)
      go_wp2
      go_ret3
      have kq : Kept (fun k => k < wr.heap.size) wr (wr.drewN nq) := (Kept.refl _ wr).drewN _
      refine ⟨⟨ia, ic, fa, fc, by rw [HN1.out.1, HN1.out.2]; rfl, HI.out.1.kept kq, HI.out.2.1.kept kq fun k h => Nat.lt_of_lt_of_le h kq.size, HI.out.2.2⟩, HK.out.drewN _⟩
end Go.Proofs.Ytffllhohlfblnaa
