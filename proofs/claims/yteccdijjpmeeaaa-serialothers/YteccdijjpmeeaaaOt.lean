/-
  The walk of SerialOthers.
-/
import Derived.Test.YteccdijjpmeeaaaDk
namespace Go.Proofs.Yteccdijjpmeeaaa
open Go.RowKit
set_option linter.unusedVariables false
set_option maxRecDepth 100000
set_option maxHeartbeats 4000000
def dcx (nm : List UInt8) : Nd := (Mk.nd ⟨6, nm, [], []⟩).new
def cmx (d : List UInt8) : Nd := (Mk.nd ⟨3, [], d, []⟩).new
def frx : Nd := (Mk.nd ⟨4, [], [], []⟩).new
theorem sound_dc (nm : List UInt8) : soundN ⟨6, nm, [], []⟩ = true := by
  rw [soundN_o 6 (by decide) (by decide)]; simp [soundL, soundP, kindP]
theorem sound_cm (d : List UInt8) : soundN ⟨3, [], d, []⟩ = true := by
  rw [soundN_o 3 (by decide) (by decide)]; simp [soundL, soundP, kindP]
abbrev xO (nm d : List UInt8) : List Nd := [frag0.new, frx, dcx nm, cmx d]
abbrev qO2 : Nat → List Nat := updR (fun _ => []) 1 ((fun _ => [] : Nat → List Nat) 1 ++ [2])
abbrev qO3 : Nat → List Nat := updR qO2 1 (qO2 1 ++ [3])
theorem qO_1 : qO3 1 = [2, 3] := rfl
theorem qO_ne {u : Nat} (c : u ≠ 1) : qO3 u = [] := by show updR qO2 1 _ u = []; rw [updR_ne _ _ c]; exact updR_ne _ _ c
theorem free1O (u : Nat) : 1 ∉ qO3 u := fun hm => by
  by_cases c : u = 1
  · subst c; rw [qO_1] at hm; simp at hm
  · rw [qO_ne c] at hm; cases hm
theorem free3O (u : Nat) : 3 ∉ qO2 u := fun hm => by
  by_cases c : u = 1
  · subst c; rw [show qO2 1 = [2] from rfl] at hm; simp at hm
  · rw [show qO2 u = [] from updR_ne _ _ c] at hm; cases hm
theorem yieldsO {o : Oper} {a : Act} {X : World} {x : Operand} {N : Nat} {cs : Array Value} (ho : o.op = .load 37 x) (hx : a.eval x = .pointer (some ⟨N, 0, none⟩)) (hb : X.heap[N]? = some (.cells cs 37 (0, 0))) (hc : cs.size = 2) :
    (execOp a.eval o).run Try.prog X = .ok (.value (.agg cs)) X := by
  unfold execOp
  simp only [ho, hx, Instr.loadAt, Instr.sureAddr, Sem.run_bind, Sem.run_pure, Result.andThen_ok, run_loadVar_row X N 37 37 cs (0, 0) _ hb Try.underlying37 rfl (sizeO cs hc)]
theorem enterK (args : Array Value) (X : World) : (callFunc 12 args).run Try.prog X = .ok (.enter 12 args) X := entersE Try.func12 (by kernel_rfl) (c := _) rfl args X
theorem enterI (args : Array Value) (X : World) : (callFunc 11 args).run Try.prog X = .ok (.enter 11 args) X := entersE Try.func11 (by kernel_rfl) (c := _) rfl args X
theorem enterOu (args : Array Value) (X : World) : (callFunc 14 args).run Try.prog X = .ok (.enter 14 args) X := entersE Try.func14 (by kernel_rfl) (c := _) rfl args X
def dcT (nm : List UInt8) : List UInt8 := doctN ++ (nm ++ [62])
def cmT (d : List UInt8) : List UInt8 := [60, 33, 45, 45] ++ (d ++ [45, 45, 62])
theorem innO {o : Ask} {M : Dm} {F : Nat} {nm d : List UInt8} (h : ∀ k (h : k < (xO nm d).length), M.nd k = (xO nm d)[k]) : innF o M qO3 (F + 3) 1 = dcT nm ++ cmT d := by
  have e1 : M.nd 1 = frx := h 1 (by simp)
  have e2 : M.nd 2 = dcx nm := h 2 (by simp)
  have e3 : M.nd 3 = cmx d := h 3 (by simp)
  rw [innF_el e1 rfl rfl, shadW_no rfl, qO_1, kidsW_cons, kidsW_one, e2, e3]
  rfl
theorem inn3 {o : Ask} {M : Dm} {F : Nat} {nm d : List UInt8} (h : ∀ k (h : k < (xO nm d).length), M.nd k = (xO nm d)[k]) : innF o M qO3 (F + 3) 3 = [] := by
  have e3 : M.nd 3 = cmx d := h 3 (by simp)
  rw [innF_el e3 rfl rfl, shadW_no rfl, qO_ne (by decide)]
  rfl
theorem dq_ins {L : Nat} {K : Nat → Prop} {w : World} {p : Nat} {nm d : List UInt8} {Q : Nat → List Nat} (i : Nat) (hi : i = 2 ∨ i = 3) (h : Dq L K w p (xO nm d) Q) (hf : ∀ u, i ∉ Q u) (hq : Q i = []) :
    Calls Try.prog 10 #[.pointer (some ⟨p, 0, none⟩), .int .i64 1, .int .i64 (i : Int), .int .i64 (-1)] w fun e w' => e = .returned (.int .u16 0) ∧ Dq L K w' p (xO nm d) (updR Q 1 (Q 1 ++ [i])) ∧ Kept K w w' := by
  have hk : ∀ k (h : k < (xO nm d).length), (xO nm d)[k].host = -1 := fun k hk => by
    have hk4 : k = 0 ∨ k = 1 ∨ k = 2 ∨ k = 3 := by simp at hk; omega
    rcases hk4 with rfl | rfl | rfl | rfl <;> rfl
  refine h.ins 1 i (by simp) (by simp; omega) (by omega) rfl (by omega) ?_ ?_ (fun u _ => hf u) hq (fun k hk' => by rw [hk k hk']; omega)
  · rcases hi with rfl | rfl
    · show (6 : Nat) ≠ 5; decide
    · show (3 : Nat) ≠ 5; decide
  · rcases hi with rfl | rfl
    · show (6 : Nat) ≠ 4; decide
    · show (3 : Nat) ≠ 4; decide
/-- What the statement asks of the document. -/
structure OthT (w : World) (p : Nat) (nm d : List UInt8) : Prop where
  o2 : ∀ X, Kept (fun k => k < w.heap.size) w X → Calls Try.prog 14 #[.pointer (some ⟨p, 0, none⟩), .int .i64 2, .agg #[.bool false, .slice none 0 0]] X fun e w' => e = .returned (.string ⟨(dcT nm).toArray⟩) ∧ Kept (fun k => k < X.heap.size) X w'
  o3 : ∀ X, Kept (fun k => k < w.heap.size) w X → Calls Try.prog 14 #[.pointer (some ⟨p, 0, none⟩), .int .i64 3, .agg #[.bool false, .slice none 0 0]] X fun e w' => e = .returned (.string ⟨(cmT d).toArray⟩) ∧ Kept (fun k => k < X.heap.size) X w'
  o1 : ∀ X, Kept (fun k => k < w.heap.size) w X → Calls Try.prog 14 #[.pointer (some ⟨p, 0, none⟩), .int .i64 1, .agg #[.bool false, .slice none 0 0]] X fun e w' => e = .returned (.string ⟨(dcT nm ++ cmT d).toArray⟩) ∧ Kept (fun k => k < X.heap.size) X w'
  i1 : ∀ X, Kept (fun k => k < w.heap.size) w X → Calls Try.prog 11 #[.pointer (some ⟨p, 0, none⟩), .int .i64 1, .agg #[.bool false, .slice none 0 0]] X fun e w' => e = .returned (.string ⟨(dcT nm ++ cmT d).toArray⟩) ∧ Kept (fun k => k < X.heap.size) X w'
  i3 : ∀ X, Kept (fun k => k < w.heap.size) w X → Calls Try.prog 11 #[.pointer (some ⟨p, 0, none⟩), .int .i64 3, .agg #[.bool false, .slice none 0 0]] X fun e w' => e = .returned (.string ⟨#[]⟩) ∧ Kept (fun k => k < X.heap.size) X w'
theorem oth_of {K : Nat → Prop} {w : World} {p : Nat} {nm d : List UInt8} (s : Dq 20 K w p (xO nm d) qO3) (hn : nm.length ≤ 100) (hd : d.length ≤ 500) : OthT w p nm d := by
  have hsz : ∀ x ∈ xO nm d, Szd x := by
    intro x hx
    simp only [List.mem_cons, List.not_mem_nil, or_false] at hx
    rcases hx with rfl | rfl | rfl | rfl
    · exact szd_frag
    · exact szd_new (by simp) (fun a ha => by cases ha) (by simp) (by simp)
    · exact szd_new (by simp) (fun a ha => by cases ha) (by simp) (by simp)
    · exact szd_new (by simp) (fun a ha => by cases ha) (by show d.length < _; omega) (by simp)
  have l1 : (dcT nm).length ≤ 200 := by unfold dcT doctN; simp; omega
  have l2 : (cmT d).length ≤ 600 := by unfold cmT; simp; omega
  have e2 : ∀ (L : List UInt8), outX L (dcx nm) false = dcT nm := fun _ => rfl
  have e3 : ∀ (L : List UInt8), outX L (cmx d) false = cmT d := fun _ => rfl
  have e1 : ∀ (L : List UInt8), outX L frx false = L := fun _ => rfl
  exact ⟨fun X hX => (s.kept hX).outer hsz 2 (by simp) false (.inl ⟨1, by simp, by rw [qO_1]; simp, rfl⟩) (opt0 X) (dcT nm) (by omega) fun M F h => e2 _,
    fun X hX => (s.kept hX).outer hsz 3 (by simp) false (.inl ⟨1, by simp, by rw [qO_1]; simp, rfl⟩) (opt0 X) (cmT d) (by omega) fun M F h => e3 _,
    fun X hX => (s.kept hX).outer hsz 1 (by simp) false (.inr ⟨fun u _ => free1O u, rfl⟩) (opt0 X) (dcT nm ++ cmT d) (by rw [List.length_append]; omega) fun M F h => (e1 _).trans (innO h),
    fun X hX => (s.kept hX).inner hsz 1 (by simp) (opt0 X) (dcT nm ++ cmT d) (by rw [List.length_append]; omega) fun M F h => innO h,
    fun X hX => (s.kept hX).inner hsz 3 (by simp) (opt0 X) [] (by simp) fun M F h => inn3 h⟩
theorem others_go (data name : ByteArray) (w : World) : Calls Try.prog 6 #[.string data, .string name] w fun e w' => e = .returned (.bool true) ∧ Kept (fun k => k < w.heap.size) w w' := by
  have r0 := new_yes 20 w (by decide) (by decide)
  have far : ∀ (b1 b2 : Bool), True := fun _ _ => trivial
  clear far
  by_cases hbig : 500 < data.size ∨ 100 < name.size
  · have fin : True := trivial
    by_cases hd : 500 < data.size
    · have e1 : decide ((data.size : Int) > 500) = true := decide_eq_true (by omega)
      clear hbig
      go_enter Try.func6, Try.ntmps6
      go_wp2_with fail
      refine r0.mono ?_
      rintro e w1 ⟨p, rfl, hp, hX1, hK1⟩
      have rk := known_any w1
      have HK1 : Hid (Kept (fun k => k < w.heap.size) w w1) := hK1
      clear r0 hX1 hK1 hp
      go_wp2_with fail
      refine rk.mono ?_
      rintro e w2 ⟨rfl, hK2⟩
      have HK2 : Hid (Kept (fun k => k < w.heap.size) w w2) := HK1.out.trans (hK2.mono fun k h => Nat.lt_of_lt_of_le h HK1.out.size)
      clear rk hK2 HK1
      go_wp2
      go_ret
      exact ⟨rfl, HK2.out⟩
    · have e1 : decide ((data.size : Int) > 500) = false := decide_eq_false (by omega)
      have e2 : decide ((name.size : Int) > 100) = true := decide_eq_true (by omega)
      clear hbig
      go_enter Try.func6, Try.ntmps6
      go_wp2_with fail
      refine r0.mono ?_
      rintro e w1 ⟨p, rfl, hp, hX1, hK1⟩
      have rk := known_any w1
      have HK1 : Hid (Kept (fun k => k < w.heap.size) w w1) := hK1
      clear r0 hX1 hK1 hp
      go_wp2_with fail
      refine rk.mono ?_
      rintro e w2 ⟨rfl, hK2⟩
      have HK2 : Hid (Kept (fun k => k < w.heap.size) w w2) := HK1.out.trans (hK2.mono fun k h => Nat.lt_of_lt_of_le h HK1.out.size)
      clear rk hK2 HK1
      go_wp2
      go_ret
      exact ⟨rfl, HK2.out⟩
  · have e1 : decide ((data.size : Int) > 500) = false := decide_eq_false (by omega)
    have e2 : decide ((name.size : Int) > 100) = false := decide_eq_false (by omega)
    have hdl : data.toList.length = data.size := by rw [ByteArray.toList_eq]; rfl
    have hnl : name.toList.length = name.size := by rw [ByteArray.toList_eq]; rfl
    have k1 : ((⟨(dcT name.toList).toArray⟩ : ByteArray).toList == (((⟨#[60, 33, 68, 79, 67, 84, 89, 80, 69, 32]⟩ : ByteArray) ++ name) ++ ⟨#[62]⟩).toList) = true := by
      rw [beq_iff_eq]; simp only [ByteArray.toList_eq, ByteArray.data_append, Array.toList_append]; unfold dcT doctN; simp
    have k2 : ((⟨(cmT data.toList).toArray⟩ : ByteArray).toList == (((⟨#[60, 33, 45, 45]⟩ : ByteArray) ++ data) ++ ⟨#[45, 45, 62]⟩).toList) = true := by
      rw [beq_iff_eq]; simp only [ByteArray.toList_eq, ByteArray.data_append, Array.toList_append]; unfold cmT; simp
    have k3 : ((⟨(dcT name.toList ++ cmT data.toList).toArray⟩ : ByteArray).toList == ((⟨(dcT name.toList).toArray⟩ : ByteArray) ++ ⟨(cmT data.toList).toArray⟩).toList) = true := by
      rw [beq_iff_eq]; simp only [ByteArray.toList_eq, ByteArray.data_append, Array.toList_append]
    have l1 : (⟨(dcT name.toList).toArray⟩ : ByteArray).size ≤ 200 := by show (dcT name.toList).length ≤ 200; unfold dcT doctN; simp; omega
    have l2 : (⟨(cmT data.toList).toArray⟩ : ByteArray).size ≤ 600 := by show (cmT data.toList).length ≤ 600; unfold cmT; simp; omega
    go_enter Try.func6, Try.ntmps6
    go_wp2_with fail
    refine r0.mono ?_
    rintro e w1 ⟨p, rfl, hp, hX1, hK1⟩
    have s1 := Dq.start (by decide) (by decide) hX1
    have r1 := s1.makeA 4 ⟨#[]⟩ ⟨#[]⟩ [] none 0 0 rest0 [] [] (by rw [ByteArray.toList_eq]) (by rw [ByteArray.toList_eq]) rfl (by decide) (AtsAt.nil _ _ _) (by decide) (by decide +kernel) (by decide) rfl (by decide) (by decide)
    have HK1 : Hid (Kept (fun k => k < w.heap.size) w w1) := hK1
    clear r0 hX1 hK1 hp s1
    go_wp2_with fail
    refine r1.mono ?_
    rintro e w2 ⟨rfl, s2, hK2⟩
    have r2 := s2.makeA 6 name ⟨#[]⟩ [] none 0 0 rest0 name.toList [] rfl (by rw [ByteArray.toList_eq]) rfl (by decide) (AtsAt.nil _ _ _) (by decide) (sound_dc _) (fun e => by cases e.1) rfl (by simp) (fun _ => by omega)
    have HK2 : Hid (Kept (fun k => k < w.heap.size) w w2) := HK1.out.trans hK2
    clear r1 s2 hK2 HK1
    go_wp2_with fail
    refine r2.mono ?_
    rintro e w3 ⟨rfl, s3, hK3⟩
    have r3 := s3.makeA 3 ⟨#[]⟩ data [] none 0 0 rest0 [] data.toList (by rw [ByteArray.toList_eq]) rfl rfl (by decide) (AtsAt.nil _ _ _) (by decide) (sound_cm _) (fun e => by cases e.1) rfl (by simp) (fun e => by cases e)
    have HK3 : Hid (Kept (fun k => k < w.heap.size) w w3) := HK2.out.trans hK3
    clear r2 s3 hK3 HK2
    go_wp2_with fail
    refine r3.mono ?_
    rintro e w4 ⟨rfl, s4, hK4⟩
    have r4 := dq_ins (nm := name.toList) (d := data.toList) 2 (.inl rfl) s4 (fun u h => by cases h) rfl
    have HK4 : Hid (Kept (fun k => k < w.heap.size) w w4) := HK3.out.trans hK4
    clear r3 s4 hK4 HK3
    go_wp2_with fail
    refine r4.mono ?_
    rintro e w5 ⟨rfl, s5, hK5⟩
    have r5 := dq_ins (nm := name.toList) (d := data.toList) 3 (.inr rfl) s5 (fun u h => free3O u h) rfl
    have HK5 : Hid (Kept (fun k => k < w.heap.size) w w5) := HK4.out.trans hK5
    clear r4 s5 hK5 HK4
    go_wp2_with fail
    refine r5.mono ?_
    rintro e w6 ⟨rfl, s6, hK6⟩
    obtain ⟨W, N, hW, hN, hb, hkW, hzW⟩ := alloc_bx w6 #[.bool false, .slice none 0 0] 37
    have hO := oth_of (s6.kept hkW) (by omega) (by omega)
    have HO : Hid (OthT W p name.toList data.toList) := hO
    have HKW : Hid (Kept (fun k => k < w.heap.size) w W) := (HK5.out.trans hK6).trans (hkW.mono fun k h => s6.lt k h)
    have HB : Hid (W.heap[N]? = some (.cells #[.bool false, .slice none 0 0] 37 (0, 0))) := hb
    have HW : Hid (w6.alloc (.cells #[.bool false, .slice none 0 0] 37) = W) := hW
    have HN : Hid (w6.heap.size = N) := hN
    obtain ⟨A, hA⟩ : ∃ A : ByteArray, ⟨(dcT name.toList).toArray⟩ = A := ⟨_, rfl⟩
    obtain ⟨B, hB⟩ : ∃ B : ByteArray, ⟨(cmT data.toList).toArray⟩ = B := ⟨_, rfl⟩
    obtain ⟨C, hC⟩ : ∃ C : ByteArray, ⟨(dcT name.toList ++ cmT data.toList).toArray⟩ = C := ⟨_, rfl⟩
    rw [hA] at k1 k3 l1
    rw [hB] at k2 k3 l2
    rw [hC] at k3
    have O2 : Hid _ := hO.o2
    have O3 : Hid _ := hO.o3
    have O1 : Hid _ := hO.o1
    have I1 : Hid _ := hO.i1
    have I3 : Hid _ := hO.i3
    rw [hA] at O2
    rw [hB] at O3
    rw [hC] at O1 I1
    clear r5 s6 hK6 HK5 hO hW hN hkW hzW hA hB hC HO
    go_upto_region 10 with fail
    rw [HW.out, HN.out]
    clear HW HN
    have c1 := O2.out W (Kept.refl _ _)
    have hbW := HB.out
    go_wp2_with (refine wpList_load_row rfl 37 _ rfl N rfl 37 #[.bool false, .slice none 0 0] (0, 0) _ hbW Try.underlying37 rfl (sizeO _ rfl) ?_)
    refine c1.mono ?_
    rintro e X1 ⟨rfl, hX1⟩
    have hb1 : X1.heap[N]? = some (.cells #[.bool false, .slice none 0 0] 37 (0, 0)) := (hX1.block N (lt_block HB.out)).trans HB.out
    have c2 := O3.out X1 hX1
    have HX1 : Hid (Kept (fun k => k < W.heap.size) W X1) := hX1
    have d0 : X1.cell? ⟨N, 0, none⟩ = some (.bool false) := by rw [cell_block hb1]; rfl
    have d1 : X1.cell? ⟨N, 1, none⟩ = some (.slice none 0 0) := by rw [cell_block hb1]; rfl
    clear c1 hX1 hbW
    go_wp2_with fail
    refine c2.mono ?_
    rintro e X2 ⟨rfl, hX2⟩
    have HX2 : Hid (Kept (fun k => k < W.heap.size) W X2) := HX1.out.trans (hX2.mono fun k h => Nat.lt_of_lt_of_le h HX1.out.size)
    clear c2 hX2 hb1 HX1 d0 d1
    go_upto_region 11 with fail
    refine wp_region_held_drew (S := fun Y => Kept (fun k => k < W.heap.size) W Y) (by kernel_rfl) (HX2.out.drew) (fun hHeld => ?_)
    refine clH 0 79 12 #[] rfl rfl (by kernel_rfl) (by rfl) rfl (by simp) (enterK _ _) (known_any _) ?_
    rintro e Y1 ⟨rfl, hk9⟩
    refine ⟨_, rfl, hHeld.trans (hk9.mono fun k h => Nat.lt_of_lt_of_le h hHeld.size), fun hHeld2 => ?_⟩
    replace hHeld := hHeld2
    clear hHeld2 hk9
    try simp only [Act.put, List.setIfInBounds_toArray, List.set_cons_zero, List.set_cons_succ]
    refine tkH 1 80 (.bool true) rfl rfl (by kernel_rfl) (by rfl) (by intro Y hY; go_simp; try with_reducible rfl) (fun _ _ _ h => h) hHeld ?_
    try simp only [Act.put, List.setIfInBounds_toArray, List.set_cons_zero, List.set_cons_succ]
    refine tkH 2 81 (.int .u16 0) rfl rfl (by kernel_rfl) (by rfl) (by intro Y hY; go_simp; try with_reducible rfl) (fun _ _ _ h => h) hHeld ?_
    try simp only [Act.put, List.setIfInBounds_toArray, List.set_cons_zero, List.set_cons_succ]
    refine tkH 3 82 (.bool true) rfl rfl (by kernel_rfl) (by rfl) (by intro Y hY; go_simp; try with_reducible rfl) (fun _ _ _ h => h) hHeld ?_
    try simp only [Act.put, List.setIfInBounds_toArray, List.set_cons_zero, List.set_cons_succ]
    refine tkH 4 83 (.bool true) rfl rfl (by kernel_rfl) (by rfl) (by intro Y hY; go_simp; try with_reducible rfl) (fun _ _ _ h => h) hHeld ?_
    try simp only [Act.put, List.setIfInBounds_toArray, List.set_cons_zero, List.set_cons_succ]
    refine tkH 5 84 (.bool true) rfl rfl (by kernel_rfl) (by rfl) (by intro Y hY; go_simp; try with_reducible rfl) (fun _ _ _ h => h) hHeld ?_
    try simp only [Act.put, List.setIfInBounds_toArray, List.set_cons_zero, List.set_cons_succ]
    refine tkH 6 85 (.int .u16 0) rfl rfl (by kernel_rfl) (by rfl) (by intro Y hY; go_simp; try with_reducible rfl) (fun _ _ _ h => h) hHeld ?_
    try simp only [Act.put, List.setIfInBounds_toArray, List.set_cons_zero, List.set_cons_succ]
    refine tkH 7 86 (.bool true) rfl rfl (by kernel_rfl) (by rfl) (by intro Y hY; go_simp; try with_reducible rfl) (fun _ _ _ h => h) hHeld ?_
    try simp only [Act.put, List.setIfInBounds_toArray, List.set_cons_zero, List.set_cons_succ]
    refine tkH 8 87 (.bool true) rfl rfl (by kernel_rfl) (by rfl) (by intro Y hY; go_simp; try with_reducible rfl) (fun _ _ _ h => h) hHeld ?_
    try simp only [Act.put, List.setIfInBounds_toArray, List.set_cons_zero, List.set_cons_succ]
    refine tkH 9 88 (.bool true) rfl rfl (by kernel_rfl) (by rfl) (by intro Y hY; go_simp; try with_reducible rfl) (fun _ _ _ h => h) hHeld ?_
    try simp only [Act.put, List.setIfInBounds_toArray, List.set_cons_zero, List.set_cons_succ]
    refine tkH 10 89 (.bool true) rfl rfl (by kernel_rfl) (by rfl) (by intro Y hY; go_simp; try with_reducible rfl) (fun _ _ _ h => h) hHeld ?_
    try simp only [Act.put, List.setIfInBounds_toArray, List.set_cons_zero, List.set_cons_succ]
    refine tkH 11 90 (.bool true) rfl rfl (by kernel_rfl) (by rfl) (by intro Y hY; go_simp; try with_reducible rfl) (fun _ _ _ h => h) hHeld ?_
    try simp only [Act.put, List.setIfInBounds_toArray, List.set_cons_zero, List.set_cons_succ]
    refine tkH 12 91 (.bool true) rfl rfl (by kernel_rfl) (by rfl) (by intro Y hY; go_simp; try with_reducible rfl) (fun _ _ _ h => h) hHeld ?_
    try simp only [Act.put, List.setIfInBounds_toArray, List.set_cons_zero, List.set_cons_succ]
    refine tkH 13 92 (.pointer (some ⟨p, 0, none⟩)) rfl rfl (by kernel_rfl) (by rfl) (by intro Y hY; go_simp; try with_reducible rfl) (fun _ _ _ h => h) hHeld ?_
    try simp only [Act.put, List.setIfInBounds_toArray, List.set_cons_zero, List.set_cons_succ]
    refine tkH 14 93 (.int .i64 1) rfl rfl (by kernel_rfl) (by rfl) (by intro Y hY; go_simp; try with_reducible rfl) (fun _ _ _ h => h) hHeld ?_
    try simp only [Act.put, List.setIfInBounds_toArray, List.set_cons_zero, List.set_cons_succ]
    refine tkH 17 96 (.pointer (some ⟨p, 0, none⟩)) rfl rfl (by kernel_rfl) (by rfl) (by intro Y hY; go_simp; try with_reducible rfl) (fun _ _ _ h => h) hHeld ?_
    try simp only [Act.put, List.setIfInBounds_toArray, List.set_cons_zero, List.set_cons_succ]
    refine tkH 18 97 (.int .i64 2) rfl rfl (by kernel_rfl) (by rfl) (by intro Y hY; go_simp; try with_reducible rfl) (fun _ _ _ h => h) hHeld ?_
    try simp only [Act.put, List.setIfInBounds_toArray, List.set_cons_zero, List.set_cons_succ]
    refine tkH 21 100 (.pointer (some ⟨p, 0, none⟩)) rfl rfl (by kernel_rfl) (by rfl) (by intro Y hY; go_simp; try with_reducible rfl) (fun _ _ _ h => h) hHeld ?_
    try simp only [Act.put, List.setIfInBounds_toArray, List.set_cons_zero, List.set_cons_succ]
    refine tkH 22 101 (.int .i64 3) rfl rfl (by kernel_rfl) (by rfl) (by intro Y hY; go_simp; try with_reducible rfl) (fun _ _ _ h => h) hHeld ?_
    try simp only [Act.put, List.setIfInBounds_toArray, List.set_cons_zero, List.set_cons_succ]
    refine tkH 15 94 (.agg #[.bool false, .slice none 0 0]) rfl rfl (by kernel_rfl) (by rfl) (by intro Y hY; exact yieldsO rfl rfl ((hY.block N (lt_block HB.out)).trans HB.out) rfl) (fun _ _ _ h => h) hHeld ?_
    try simp only [Act.put, List.setIfInBounds_toArray, List.set_cons_zero, List.set_cons_succ]
    refine tkH 19 98 (.agg #[.bool false, .slice none 0 0]) rfl rfl (by kernel_rfl) (by rfl) (by intro Y hY; exact yieldsO rfl rfl ((hY.block N (lt_block HB.out)).trans HB.out) rfl) (fun _ _ _ h => h) hHeld ?_
    try simp only [Act.put, List.setIfInBounds_toArray, List.set_cons_zero, List.set_cons_succ]
    refine tkH 23 102 (.agg #[.bool false, .slice none 0 0]) rfl rfl (by kernel_rfl) (by rfl) (by intro Y hY; exact yieldsO rfl rfl ((hY.block N (lt_block HB.out)).trans HB.out) rfl) (fun _ _ _ h => h) hHeld ?_
    try simp only [Act.put, List.setIfInBounds_toArray, List.set_cons_zero, List.set_cons_succ]
    refine clH 16 95 11 #[.pointer (some ⟨p, 0, none⟩), .int .i64 1, .agg #[.bool false, .slice none 0 0]] rfl rfl (by kernel_rfl) (by rfl) rfl (by first | rfl | (simp [Act.eval]; done) | (simp [Act.eval, Act.put]; done)) (enterI _ _) (I1.out _ hHeld) ?_
    rintro e Y2 ⟨rfl, hk9⟩
    refine ⟨_, rfl, hHeld.trans (hk9.mono fun k h => Nat.lt_of_lt_of_le h hHeld.size), fun hHeld2 => ?_⟩
    replace hHeld := hHeld2
    clear hHeld2 hk9
    try simp only [Act.put, List.setIfInBounds_toArray, List.set_cons_zero, List.set_cons_succ]
    refine clH 20 99 14 #[.pointer (some ⟨p, 0, none⟩), .int .i64 2, .agg #[.bool false, .slice none 0 0]] rfl rfl (by kernel_rfl) (by rfl) rfl (by first | rfl | (simp [Act.eval]; done) | (simp [Act.eval, Act.put]; done)) (enterOu _ _) (O2.out _ hHeld) ?_
    rintro e Y3 ⟨rfl, hk9⟩
    refine ⟨_, rfl, hHeld.trans (hk9.mono fun k h => Nat.lt_of_lt_of_le h hHeld.size), fun hHeld2 => ?_⟩
    replace hHeld := hHeld2
    clear hHeld2 hk9
    try simp only [Act.put, List.setIfInBounds_toArray, List.set_cons_zero, List.set_cons_succ]
    refine clH 24 103 14 #[.pointer (some ⟨p, 0, none⟩), .int .i64 3, .agg #[.bool false, .slice none 0 0]] rfl rfl (by kernel_rfl) (by rfl) rfl (by first | rfl | (simp [Act.eval]; done) | (simp [Act.eval, Act.put]; done)) (enterOu _ _) (O3.out _ hHeld) ?_
    rintro e Y4 ⟨rfl, hk9⟩
    refine ⟨_, rfl, hHeld.trans (hk9.mono fun k h => Nat.lt_of_lt_of_le h hHeld.size), fun hHeld2 => ?_⟩
    replace hHeld := hHeld2
    clear hHeld2 hk9
    try simp only [Act.put, List.setIfInBounds_toArray, List.set_cons_zero, List.set_cons_succ]
    refine tkH 25 104 (.string (A ++ B)) rfl rfl (by kernel_rfl) (by rfl) (by intro Y hY; go_simp; first | with_reducible rfl | omega) (fun _ _ _ h => h) hHeld ?_
    try simp only [Act.put, List.setIfInBounds_toArray, List.set_cons_zero, List.set_cons_succ]
    refine tkH 26 105 (.bool true) rfl rfl (by kernel_rfl) (by rfl) (by intro Y hY; go_simp; try with_reducible rfl) (fun _ _ _ h => h) hHeld ?_
    try simp only [Act.put, List.setIfInBounds_toArray, List.set_cons_zero, List.set_cons_succ]
    refine tkH 27 106 (.bool true) rfl rfl (by kernel_rfl) (by rfl) (by intro Y hY; go_simp; try with_reducible rfl) (fun _ _ _ h => h) hHeld ?_
    try simp only [Act.put, List.setIfInBounds_toArray, List.set_cons_zero, List.set_cons_succ]
    refine tkH 28 107 (.bool true) rfl rfl (by kernel_rfl) (by rfl) (by intro Y hY; go_simp; try with_reducible rfl) (fun _ _ _ h => h) hHeld ?_
    try simp only [Act.put, List.setIfInBounds_toArray, List.set_cons_zero, List.set_cons_succ]
    refine tkH 29 108 (.pointer (some ⟨p, 0, none⟩)) rfl rfl (by kernel_rfl) (by rfl) (by intro Y hY; go_simp; try with_reducible rfl) (fun _ _ _ h => h) hHeld ?_
    try simp only [Act.put, List.setIfInBounds_toArray, List.set_cons_zero, List.set_cons_succ]
    refine tkH 30 109 (.int .i64 1) rfl rfl (by kernel_rfl) (by rfl) (by intro Y hY; go_simp; try with_reducible rfl) (fun _ _ _ h => h) hHeld ?_
    try simp only [Act.put, List.setIfInBounds_toArray, List.set_cons_zero, List.set_cons_succ]
    refine tkH 33 112 (.pointer (some ⟨p, 0, none⟩)) rfl rfl (by kernel_rfl) (by rfl) (by intro Y hY; go_simp; try with_reducible rfl) (fun _ _ _ h => h) hHeld ?_
    try simp only [Act.put, List.setIfInBounds_toArray, List.set_cons_zero, List.set_cons_succ]
    refine tkH 34 113 (.int .i64 1) rfl rfl (by kernel_rfl) (by rfl) (by intro Y hY; go_simp; try with_reducible rfl) (fun _ _ _ h => h) hHeld ?_
    try simp only [Act.put, List.setIfInBounds_toArray, List.set_cons_zero, List.set_cons_succ]
    refine tkH 31 110 (.agg #[.bool false, .slice none 0 0]) rfl rfl (by kernel_rfl) (by rfl) (by intro Y hY; exact yieldsO rfl rfl ((hY.block N (lt_block HB.out)).trans HB.out) rfl) (fun _ _ _ h => h) hHeld ?_
    try simp only [Act.put, List.setIfInBounds_toArray, List.set_cons_zero, List.set_cons_succ]
    refine tkH 35 114 (.agg #[.bool false, .slice none 0 0]) rfl rfl (by kernel_rfl) (by rfl) (by intro Y hY; exact yieldsO rfl rfl ((hY.block N (lt_block HB.out)).trans HB.out) rfl) (fun _ _ _ h => h) hHeld ?_
    try simp only [Act.put, List.setIfInBounds_toArray, List.set_cons_zero, List.set_cons_succ]
    refine clH 32 111 14 #[.pointer (some ⟨p, 0, none⟩), .int .i64 1, .agg #[.bool false, .slice none 0 0]] rfl rfl (by kernel_rfl) (by rfl) rfl (by first | rfl | (simp [Act.eval]; done) | (simp [Act.eval, Act.put]; done)) (enterOu _ _) (O1.out _ hHeld) ?_
    rintro e Y5 ⟨rfl, hk9⟩
    refine ⟨_, rfl, hHeld.trans (hk9.mono fun k h => Nat.lt_of_lt_of_le h hHeld.size), fun hHeld2 => ?_⟩
    replace hHeld := hHeld2
    clear hHeld2 hk9
    try simp only [Act.put, List.setIfInBounds_toArray, List.set_cons_zero, List.set_cons_succ]
    refine clH 36 115 11 #[.pointer (some ⟨p, 0, none⟩), .int .i64 1, .agg #[.bool false, .slice none 0 0]] rfl rfl (by kernel_rfl) (by rfl) rfl (by first | rfl | (simp [Act.eval]; done) | (simp [Act.eval, Act.put]; done)) (enterI _ _) (I1.out _ hHeld) ?_
    rintro e Y6 ⟨rfl, hk9⟩
    refine ⟨_, rfl, hHeld.trans (hk9.mono fun k h => Nat.lt_of_lt_of_le h hHeld.size), fun hHeld2 => ?_⟩
    replace hHeld := hHeld2
    clear hHeld2 hk9
    try simp only [Act.put, List.setIfInBounds_toArray, List.set_cons_zero, List.set_cons_succ]
    refine tkH 37 116 (.bool true) rfl rfl (by kernel_rfl) (by rfl) (by intro Y hY; go_simp; try with_reducible rfl) (fun _ _ _ h => h) hHeld ?_
    try simp only [Act.put, List.setIfInBounds_toArray, List.set_cons_zero, List.set_cons_succ]
    refine tkH 38 117 (.bool true) rfl rfl (by kernel_rfl) (by rfl) (by intro Y hY; go_simp; try with_reducible rfl) (fun _ _ _ h => h) hHeld ?_
    try simp only [Act.put, List.setIfInBounds_toArray, List.set_cons_zero, List.set_cons_succ]
    refine tkH 39 118 (.bool true) rfl rfl (by kernel_rfl) (by rfl) (by intro Y hY; go_simp; try with_reducible rfl) (fun _ _ _ h => h) hHeld ?_
    try simp only [Act.put, List.setIfInBounds_toArray, List.set_cons_zero, List.set_cons_succ]
    refine tkH 40 119 (.pointer (some ⟨p, 0, none⟩)) rfl rfl (by kernel_rfl) (by rfl) (by intro Y hY; go_simp; try with_reducible rfl) (fun _ _ _ h => h) hHeld ?_
    try simp only [Act.put, List.setIfInBounds_toArray, List.set_cons_zero, List.set_cons_succ]
    refine tkH 41 120 (.int .i64 3) rfl rfl (by kernel_rfl) (by rfl) (by intro Y hY; go_simp; try with_reducible rfl) (fun _ _ _ h => h) hHeld ?_
    try simp only [Act.put, List.setIfInBounds_toArray, List.set_cons_zero, List.set_cons_succ]
    refine tkH 42 121 (.agg #[.bool false, .slice none 0 0]) rfl rfl (by kernel_rfl) (by rfl) (by intro Y hY; exact yieldsO rfl rfl ((hY.block N (lt_block HB.out)).trans HB.out) rfl) (fun _ _ _ h => h) hHeld ?_
    try simp only [Act.put, List.setIfInBounds_toArray, List.set_cons_zero, List.set_cons_succ]
    refine clH 43 122 11 #[.pointer (some ⟨p, 0, none⟩), .int .i64 3, .agg #[.bool false, .slice none 0 0]] rfl rfl (by kernel_rfl) (by rfl) rfl (by first | rfl | (simp [Act.eval]; done) | (simp [Act.eval, Act.put]; done)) (enterI _ _) (I3.out _ hHeld) ?_
    rintro e Y7 ⟨rfl, hk9⟩
    refine ⟨_, rfl, hHeld.trans (hk9.mono fun k h => Nat.lt_of_lt_of_le h hHeld.size), fun hHeld2 => ?_⟩
    replace hHeld := hHeld2
    clear hHeld2 hk9
    try simp only [Act.put, List.setIfInBounds_toArray, List.set_cons_zero, List.set_cons_succ]
    refine tkH 44 123 (.bool true) rfl rfl (by kernel_rfl) (by rfl) (by intro Y hY; go_simp; try with_reducible rfl) (fun _ _ _ h => h) hHeld ?_
    try simp only [Act.put, List.setIfInBounds_toArray, List.set_cons_zero, List.set_cons_succ]
    refine tkH 45 124 (.bool true) rfl rfl (by kernel_rfl) (by rfl) (by intro Y hY; go_simp; try with_reducible rfl) (fun _ _ _ h => h) hHeld ?_
    try simp only [Act.put, List.setIfInBounds_toArray, List.set_cons_zero, List.set_cons_succ]
    refine tkH 46 4 (.bool true) rfl rfl (by kernel_rfl) (by rfl) (by intro Y hY; go_simp; try with_reducible rfl) (fun _ _ _ h => h) hHeld ?_
    try simp only [Act.put, List.setIfInBounds_toArray, List.set_cons_zero, List.set_cons_succ]
    refine wpAnyH_done (by kernel_rfl) ?_ _
    have HKF := HKW.out.trans (hHeld.mono fun k h => Nat.lt_of_lt_of_le h HKW.out.size)
    have HKF' : Hid (Kept (fun k => k < w.heap.size) w Y7) := HKF
    clear hHeld HKF I1 I3 O1 O2 O3 HB HX2 k1 k2 k3
    go_wp2
    go_ret
    exact ⟨rfl, HKF'.out⟩
end Go.Proofs.Yteccdijjpmeeaaa
