/-
  The chapter's example holds (known).
-/
import Derived.Test.YthhoicmfmfeehaaGreatZ18
namespace Go.Proofs.YthhoicmfmfeehaaGreat
open Go.RowKit
set_option linter.unusedVariables false

def rest0 : Rest := ⟨0, none, 0, 0, 0, 0, 0, ⟨false, false, false, false, false⟩⟩
/-- A node that is made of a kind, a name and data. -/
abbrev plainV (kz : Int) (S D : ByteArray) : Value := .agg #[.int .u8 kz, .string S, .string D, .slice none 0 0, .int .i64 0, .slice none 0 0, .int .i64 0, .int .i64 0, .int .i64 0, .bool false, .bool false, .bool false, .bool false, .bool false]
theorem make_plain (K : Nat → Prop) (p : Nat) (M : Dm) (w : World) (kz : Int) (kd : Nat) (S D : ByteArray) (hkz : kz = (kd : Int)) (hX : DX K w p M) (hMn : M.n ≤ 100000) (hML : M.limit ≤ 100000) :
    Calls Tryz.prog 21 #[.pointer (some ⟨p, 0, none⟩), plainV kz S D] w fun e w' => Kept K w w' ∧ Makes K p M ⟨kd, S.toList, D.toList, []⟩ e w' := by
  subst hkz
  exact make_any K p kd S D [] none 0 0 rest0 w M hX hMn hML rfl (Nat.zero_le _) (AtsAt.nil _ _ _) (fun x hx => by cases hx)
theorem make1 (K : Nat → Prop) (p : Nat) (M : Dm) (w : World) (kz : Int) (kd : Nat) (S D : ByteArray) (nm dt : List UInt8) (hkz : kz = (kd : Int)) (hS : S.toList = nm) (hD : D.toList = dt) (hX : DX K w p M) (hMn : M.n ≤ 100000) (hML : M.limit ≤ 100000) (hs : soundN ⟨kd, nm, dt, []⟩ = true) (ht : ¬ (kd = 1 ∧ nm = [116, 101, 109, 112, 108, 97, 116, 101])) (hr : M.n + 1 ≤ M.limit) :
    Calls Tryz.prog 21 #[.pointer (some ⟨p, 0, none⟩), plainV kz S D] w fun e w' => e = .returned (.tuple #[.int .i64 (M.n : Int), .int .u16 0]) ∧ DX K w' p (M.add (Mk.nd ⟨kd, nm, dt, []⟩)) ∧ Kept K w w' := by
  refine (make_plain K p M w kz kd S D hkz hX hMn hML).mono ?_
  rintro e w' ⟨hK, hM⟩
  rw [hS, hD] at hM
  cases hM with
  | arg h1 => rw [hs] at h1; cases h1
  | full h1 h2 h3 h4 => rw [if_neg ht] at h2; omega
  | two h1 h2 => exact absurd h2 ht
  | one h1 h2 h3 h4 h5 => exact ⟨h4, h5, hK⟩
def divN : Nd := Mk.nd ⟨1, [100, 105, 118], [], []⟩
def txtN : Nd := Mk.nd ⟨2, [], [120], []⟩
theorem sound_div : soundN ⟨1, [100, 105, 118], [], []⟩ = true := by kernel_rfl
theorem sound_txt : soundN ⟨2, [], [120], []⟩ = true := by kernel_rfl
abbrev divB : ByteArray := ⟨#[100, 105, 118]⟩
theorem divB_list : divB.toList = [100, 105, 118] := by rw [ByteArray.toList_eq]
theorem empB_list : (⟨#[]⟩ : ByteArray).toList = [] := by rw [ByteArray.toList_eq]
theorem xB_list : (⟨#[120]⟩ : ByteArray).toList = [120] := by rw [ByteArray.toList_eq]
def kM2 : Dm := ((Dm.new 9).add divN).add txtN
def kR2 : Nat → List Nat := updR (updR (fun _ => []) 1 []) 2 []
def kM3 : Dm := kM2.setP (putD kM2 kR2 0 1 (-1))
def kR3 : Nat → List Nat := putDR kM2 kR2 0 1 (-1)
def kM4 : Dm := kM3.setP (putD kM3 kR3 1 2 (-1))
def kR4 : Nat → List Nat := putDR kM3 kR3 1 2 (-1)
theorem kG2 : Good kM2 kR2 (fun _ => 0) := ((Good.new 9).add divN (Nat.zero_le _)).add txtN (Nat.zero_le _)
theorem kF2 : Fits kM2 0 1 (-1) := ⟨by kernel_rfl, by kernel_rfl, Wi.none (by decide) (by kernel_rfl), .inl rfl⟩
theorem kF3 : Fits kM3 1 2 (-1) := ⟨by kernel_rfl, by kernel_rfl, fun h => by
  have h1 : parI kM3 1 = ((0 : Nat) : Int) := by kernel_rfl
  have h0 : parI kM3 0 = -1 := by kernel_rfl
  rw [Wi.step (by decide) h1] at h
  exact Wi.none (by decide) h0 h, .inl rfl⟩
theorem kF4 : ¬ Fits kM4 2 1 (-1) := fun h => by
  have : holdB (kM4.nd 2) = false := by kernel_rfl
  rw [h.1] at this
  cases this
theorem kN4 : (kM4.pl 1).up = 0 := by kernel_rfl
theorem kK4 : kR4 1 = [2] := by kernel_rfl
theorem kS4 : (kM4.nd 1).shadow = -1 := by kernel_rfl
theorem kn4 : kM4.n = 3 := rfl

set_option maxRecDepth 20000 in
set_option maxHeartbeats 2000000 in
theorem known_any (w : World) : Calls Tryz.prog 10 #[] w fun e w' => e = .returned (.bool true) ∧ Kept (fun k => k < w.heap.size) w w' := by
  have r0 := new_yes 9 w (by decide) (by decide)
  have HK0 : Hid (∀ X : World, Kept (fun k => k < w.heap.size) w X → True) := fun _ _ => trivial
  go_enter Tryz.func10, Tryz.ntmps10
  go_wp2_with fail
  refine r0.mono ?_
  rintro e w1 ⟨p, rfl, hp, hX1, hK1⟩
  have HK1 : Hid (Kept (fun k => k < w.heap.size) w w1) := hK1
  have r1 := make1 (fun k => k < w.heap.size) p (Dm.new 9) w1 1 1 divB ⟨#[]⟩ [100, 105, 118] [] rfl divB_list empB_list hX1 (by decide) (by decide) sound_div (by decide) (by decide)
  have H1 : Hid (Calls Tryz.prog 21 #[.pointer (some ⟨p, 0, none⟩), plainV 1 divB ⟨#[]⟩] w1 fun e w' => e = .returned (.tuple #[.int .i64 1, .int .u16 0]) ∧ DX (fun k => k < w.heap.size) w' p ((Dm.new 9).add divN) ∧ Kept (fun k => k < w.heap.size) w1 w') := r1
  clear r0 r1 hX1 hK1
  go_wp2_with fail
  refine H1.out.mono ?_
  rintro e w2 ⟨rfl, hX2, hK2⟩
  have HK2 : Hid (Kept (fun k => k < w.heap.size) w w2) := HK1.out.trans hK2
  have r1 := make1 (fun k => k < w.heap.size) p ((Dm.new 9).add divN) w2 2 2 ⟨#[]⟩ ⟨#[120]⟩ [] [120] rfl empB_list xB_list hX2 (by decide) (by decide) sound_txt (by decide) (by decide)
  have H2 : Hid (Calls Tryz.prog 21 #[.pointer (some ⟨p, 0, none⟩), plainV 2 ⟨#[]⟩ ⟨#[120]⟩] w2 fun e w' => e = .returned (.tuple #[.int .i64 2, .int .u16 0]) ∧ DX (fun k => k < w.heap.size) w' p kM2 ∧ Kept (fun k => k < w.heap.size) w2 w') := r1
  clear r1 hX2 hK2 H1
  go_wp2_with fail
  refine H2.out.mono ?_
  rintro e w3 ⟨rfl, hX3, hK3⟩
  have HK3 : Hid (Kept (fun k => k < w.heap.size) w w3) := HK2.out.trans hK3
  have r1 := insert_in (fun k => k < w.heap.size) p 0 1 (-1) kM2 kR2 _ w3 hX3 kG2.wf kG2.acy (by decide) (by decide) (.inl rfl) (by decide)
  have H3 : Hid (Calls Tryz.prog 23 #[.pointer (some ⟨p, 0, none⟩), .int .i64 0, .int .i64 1, .int .i64 (-1)] w3 fun e w' => e = .returned (.int .u16 0) ∧ DX (fun k => k < w.heap.size) w' p kM3 ∧ Kept (fun k => k < w.heap.size) w3 w') := r1.mono fun e w' h => by
    rcases h with ⟨hK, ⟨_, h, _⟩ | ⟨h1, _, h2⟩⟩
    · exact absurd kF2 h
    · exact ⟨h1, h2, hK⟩
  clear r1 hX3 hK3 H2
  go_wp2_with fail
  refine H3.out.mono ?_
  rintro e w4 ⟨rfl, hX4, hK4⟩
  have HK4 : Hid (Kept (fun k => k < w.heap.size) w w4) := HK3.out.trans hK4
  obtain ⟨rk3, hG3⟩ := kG2.ins (by decide) (by decide) kF2
  have hG3' : Good kM3 kR3 rk3 := hG3
  have r1 := insert_in (fun k => k < w.heap.size) p 1 2 (-1) kM3 kR3 rk3 w4 hX4 hG3'.wf hG3'.acy (by decide) (by decide) (.inl rfl) (by decide)
  have H4 : Hid (Calls Tryz.prog 23 #[.pointer (some ⟨p, 0, none⟩), .int .i64 1, .int .i64 2, .int .i64 (-1)] w4 fun e w' => e = .returned (.int .u16 0) ∧ DX (fun k => k < w.heap.size) w' p kM4 ∧ Kept (fun k => k < w.heap.size) w4 w') := r1.mono fun e w' h => by
    rcases h with ⟨hK, ⟨_, h, _⟩ | ⟨h1, _, h2⟩⟩
    · exact absurd kF3 h
    · exact ⟨h1, h2, hK⟩
  have HG4 : Hid (∃ rk4, Good kM4 kR4 rk4) := hG3'.ins (by decide) (by decide) kF3
  clear r1 hX4 hK4 H3 hG3 hG3'
  go_wp2_with fail
  refine H4.out.mono ?_
  rintro e w5 ⟨rfl, hX5, hK5⟩
  have HK5 : Hid (Kept (fun k => k < w.heap.size) w w5) := HK4.out.trans hK5
  obtain ⟨rk4, hG4⟩ := HG4.out
  have rn := node_any (fun k => k < w.heap.size) p 1 kM4 kR4 w5 hX5 hG4.wf (by decide) (by decide) hG4.few
  have HX5 : Hid (DX (fun k => k < w.heap.size) w5 p kM4) := hX5
  have HG : Hid (Good kM4 kR4 rk4) := hG4
  clear H4 hX5 hK5 hG4 HG4
  go_wp2_with fail
  refine rn.mono ?_
  rintro e w6 ⟨ao, c, ko, kc, rfl, hO, hQ, hK6⟩
  have HX6 : Hid (DX (fun k => k < w.heap.size) w6 p kM4) := HX5.out.kept hK6
  have HK6 : Hid (Kept (fun k => k < w.heap.size) w w6) := HK5.out.trans (hK6.mono fun k h => Nat.lt_of_lt_of_le h HK5.out.size)
  rw [kK4] at hQ
  have hq0 : ∃ g, ko = some ⟨g, 0, none⟩ ∧ w6.cell? ⟨g, 0, none⟩ = some (.int .i64 2) := hQ.cell (j := 0) rfl
  obtain ⟨gq, rfl, hq⟩ := hq0
  have hql : gq < w6.heap.size := (hQ.out (g := gq) rfl).2
  rw [kK4, kN4, kS4, show ([2] : List Nat).length = 1 from rfl]
  obtain ⟨kd, hkd⟩ : ∃ z, (kM4.nd 1).kind = z := ⟨_, rfl⟩
  obtain ⟨SS, hSS⟩ : ∃ z : ByteArray, (⟨(kM4.nd 1).name.toArray⟩ : ByteArray) = z := ⟨_, rfl⟩
  obtain ⟨DD, hDD⟩ : ∃ z : ByteArray, (⟨(kM4.nd 1).data.toArray⟩ : ByteArray) = z := ⟨_, rfl⟩
  obtain ⟨an, han⟩ : ∃ z, (kM4.nd 1).attrs.length = z := ⟨_, rfl⟩
  obtain ⟨ho, hho⟩ : ∃ z, (kM4.nd 1).host = z := ⟨_, rfl⟩
  obtain ⟨co, hco⟩ : ∃ z, (kM4.nd 1).content = z := ⟨_, rfl⟩
  obtain ⟨fl, hfl⟩ : ∃ z, (kM4.nd 1).fl = z := ⟨_, rfl⟩
  rw [hkd, hSS, hDD, han, hho, hco, hfl]
  obtain ⟨V, hV⟩ : ∃ V, w6.alloc (.cells #[.int .u8 (kd : Int), .string SS, .string DD, .slice ao an c, .int .i64 0, .slice (some ⟨gq, 0, none⟩) 1 kc, .int .i64 (-1), .int .i64 ho, .int .i64 co, .bool fl.a, .bool fl.b, .bool fl.c, .bool fl.d, .bool fl.e] 45) = V := ⟨_, rfl⟩
  have kV : Kept (fun k => k < w6.heap.size) w6 V := by rw [← hV]; exact (Kept.refl _ w6).alloc (fun _ h => h) _
  have hbV : V.heap[w6.heap.size]? = some (.cells #[.int .u8 (kd : Int), .string SS, .string DD, .slice ao an c, .int .i64 0, .slice (some ⟨gq, 0, none⟩) 1 kc, .int .i64 (-1), .int .i64 ho, .int .i64 co, .bool fl.a, .bool fl.b, .bool fl.c, .bool fl.d, .bool fl.e] 45) := by rw [← hV]; exact heap_alloc_new w6 _
  have hXV : DX (fun k => k < w.heap.size) V p kM4 := HX6.out.kept kV
  have rc := copy_any (fun k => k < w.heap.size) p kM4 V hXV (by decide) (by decide) HG.out.few
  have HV : Hid (w6.alloc (.cells #[.int .u8 (kd : Int), .string SS, .string DD, .slice ao an c, .int .i64 0, .slice (some ⟨gq, 0, none⟩) 1 kc, .int .i64 (-1), .int .i64 ho, .int .i64 co, .bool fl.a, .bool fl.b, .bool fl.c, .bool fl.d, .bool fl.e] 45) = V) := hV
  obtain ⟨N, hN⟩ : ∃ N, w6.heap.size = N := ⟨_, rfl⟩
  rw [hN] at hbV
  have HN : Hid (w6.heap.size = N) := hN
  have HBV : Hid (V.heap[N]? = some (.cells #[.int .u8 (kd : Int), .string SS, .string DD, .slice ao an c, .int .i64 0, .slice (some ⟨gq, 0, none⟩) 1 kc, .int .i64 (-1), .int .i64 ho, .int .i64 co, .bool fl.a, .bool fl.b, .bool fl.c, .bool fl.d, .bool fl.e] 45)) := hbV
  have HKV : Hid (Kept (fun k => k < w.heap.size) w V) := HK6.out.trans (kV.mono fun k h => Nat.lt_of_lt_of_le h HK6.out.size)
  have HXV : Hid (DX (fun k => k < w.heap.size) V p kM4) := hXV
  have hqV : V.cell? ⟨gq, 0, none⟩ = some (.int .i64 2) := (kV.cell (p := ⟨gq, 0, none⟩) hql).trans hq
  have hqV' : gq < V.heap.size := Nat.lt_of_lt_of_le hql kV.size
  clear hO hQ hK6 hq hql hkd hSS hDD han hho hco hfl hV kV hXV rn hbV HX5 HX6 hN
  go_wp2_with fail
  rw [HV.out, HN.out]
  refine rc.mono ?_
  rintro e w8 ⟨pc, rfl, hpc, hXc, hK8⟩
  have hbN : N < V.heap.size := lt_block HBV.out
  have hb8 : w8.heap[N]? = some (.cells #[.int .u8 (kd : Int), .string SS, .string DD, .slice ao an c, .int .i64 0, .slice (some ⟨gq, 0, none⟩) 1 kc, .int .i64 (-1), .int .i64 ho, .int .i64 co, .bool fl.a, .bool fl.b, .bool fl.c, .bool fl.d, .bool fl.e] 45) := by rw [hK8.block N hbN]; exact HBV.out
  have m4 : w8.cell? ⟨N, 4, none⟩ = some (.int .i64 0) := by rw [cell_block hb8]; rfl
  have m5 : w8.cell? ⟨N, 5, none⟩ = some (.slice (some ⟨gq, 0, none⟩) 1 kc) := by rw [cell_block hb8]; rfl
  have m6 : w8.cell? ⟨N, 6, none⟩ = some (.int .i64 (-1)) := by rw [cell_block hb8]; rfl
  have hq8 : w8.cell? ⟨gq, 0, none⟩ = some (.int .i64 2) := (hK8.cell (p := ⟨gq, 0, none⟩) hqV').trans hqV
  obtain ⟨gc, capc, hYc⟩ := hXc
  have hc1 := hYc.c1
  have hpc8 := hYc.plt
  have hX8 : DX (fun k => k < w.heap.size ∨ (V.heap.size ≤ k ∧ k < w8.heap.size)) w8 p kM4 := HXV.out.more hK8 (fun k hk => by rcases hk with h | h; exact .inl h; exact .inr h.1) (fun k hk => by
    rcases hk with h | h
    · exact Nat.lt_of_lt_of_le h (Nat.le_trans HKV.out.size hK8.size)
    · exact h.2)
  have r4 := insert_in (fun k => k < w.heap.size ∨ (V.heap.size ≤ k ∧ k < w8.heap.size)) p 2 1 (-1) kM4 kR4 rk4 w8 hX8 HG.out.wf HG.out.acy (by decide) (by decide) (.inl rfl) (by decide)
  have H5 : Hid (Calls Tryz.prog 23 #[.pointer (some ⟨p, 0, none⟩), .int .i64 2, .int .i64 1, .int .i64 (-1)] w8 fun e w' => e = .returned (.int .u16 81) ∧ Kept (fun k => k < w.heap.size ∨ (V.heap.size ≤ k ∧ k < w8.heap.size)) w8 w') := r4.mono fun e w' h => by
    rcases h with ⟨hK, ⟨h1, _, _⟩ | ⟨_, h, _⟩⟩
    · exact ⟨h1, hK⟩
    · exact absurd h kF4
  have HK8 : Hid (Kept (fun k => k < w.heap.size) w w8) := HKV.out.trans (hK8.mono fun k h => Nat.lt_of_lt_of_le h HKV.out.size)
  clear rc r4 hX8 hYc hK8 hb8 hqV hqV' HBV HV HN HXV hbN
  go_wp2_with fail
  refine H5.out.mono ?_
  rintro e w9 ⟨rfl, hK9⟩
  have hc9 : w9.cell? ⟨pc, 1, none⟩ = some (.slice gc 3 capc) := (hK9.cell (p := ⟨pc, 1, none⟩) (.inr ⟨hpc, hpc8⟩)).trans hc1
  have HK9 : Hid (Kept (fun k => k < w.heap.size) w w9) := HK8.out.trans (hK9.mono fun k h => .inl h)
  have rl := len_any pc 3 capc gc w9 hc9
  have rn := new_no 0 w9 (.inl (by decide))
  clear H5 hK9 hc1 m4 m5 m6 hq8
  go_wp2_with (first | (go_at_call 17; refine rl.mono ?_; rintro e wa ⟨rfl, hwa⟩; replace hwa := hwa.symm; subst hwa) | (go_at_call 11; refine rn.mono ?_; rintro e wa ⟨rfl, hwa⟩; replace hwa := hwa.symm; subst hwa))
  go_ret
  exact ⟨rfl, HK9.out⟩
end Go.Proofs.YthhoicmfmfeehaaGreat
