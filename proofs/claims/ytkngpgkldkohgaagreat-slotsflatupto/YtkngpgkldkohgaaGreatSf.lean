/-
  The walk of SlotsFlat.
-/
import Derived.Test.YtkngpgkldkohgaaGreatQa
namespace Go.Proofs.YtkngpgkldkohgaaGreat
open Go.RowKit Go.Sort
set_option linter.unusedVariables false
set_option maxRecDepth 100000
set_option maxHeartbeats 8000000
section
variable {M : Dm} {R G : Nat → List Nat} {rk : Nat → Nat}
/-- What is shown at last: no slot of a root; elements and texts alone. -/
theorem Inv.flat_mem (h : Inv M R G rk) {i k : Nat} (hi : i < M.n) (hk : k ∈ flatL M R G i) : isS M i = true ∧ k < M.n ∧ isS M k = false ∧ showB (M.nd k) = true := by
  unfold flatL at hk
  by_cases c : isS M i = true
  · rw [if_pos c] at hk
    obtain ⟨h1, h2⟩ := List.mem_filter.1 hk
    have h3 : isS M k = false := by simpa using h2
    have hu := (mem_tr h.nxt_falls hi).1 h1
    cases hu with
    | here => rw [c] at h3; cases h3
    | up hy hm _ => exact ⟨c, (h.nxt_mem hy hm).1, h3, (h.nxt_mem hy hm).2.2.1⟩
  · rw [if_neg c] at hk; cases hk
theorem Inv.text_name (h : Inv M R G rk) {k : Nat} (hk : k < M.n) (h2 : (M.nd k).kind = 2) : (M.nd k).name = [] := by
  have := h.ex.snd k hk (by rw [h2]; decide)
  unfold soundN Nd.mk' Mk.it soundL at this
  simp [h2, soundP, kindP] at this
  exact this.1.1
/-- A name that is shown at last: of an element that is no slot, of a slot that is in no root, or none. -/
theorem Inv.flat_name (h : Inv M R G rk) {i k : Nat} (hi : i < M.n) (hk : k ∈ flatL M R G i) : ((M.nd k).kind = 1 ∨ (M.nd k).kind = 2) ∧ ((M.nd k).name ≠ slotN ∨ ofZ M (k : Int) = -1) := by
  obtain ⟨-, h1, h2, h3⟩ := h.flat_mem hi hk
  have hkd := showB_iff.1 h3
  refine ⟨hkd, ?_⟩
  by_cases c : (M.nd k).name = slotN
  · right
    rcases hkd with k1 | k2
    · unfold isS at h2
      rw [isSl_iff.2 ⟨k1, c⟩, Bool.true_and] at h2
      simpa using h2
    · rw [h.text_name h1 k2] at c; cases c
  · exact .inl c
end
/-- A row of integers that lies in memory. -/
def NewF (X : World) (ko : Option Addr) (l : List Nat) : Prop := ∀ j (h : j < l.length), ∃ g, ko = some ⟨g, 0, none⟩ ∧ g < X.heap.size ∧ X.cell? ⟨g, j, none⟩ = some (.int .i64 (l[j] : Int))
theorem sflat_go (l : List Opx) (n : Nat) (hln : l.length = n) (hnn : n ≤ 60) (a : Option Addr) (c : Nat) (hok : ∀ o ∈ l, OpOk o) (hb : opsH l ≤ 6000) (w : World) (h : OpsAt (fun k => k < w.heap.size) w a l) (za : Nat) (hza : za < 65536) :
    Calls Tryz.prog 4 #[.slice a n c, .int .u16 (za : Int)] w fun e w' => e = .returned (.bool true) ∧ Kept (fun k => k < w.heap.size) w w' := by
  have rh := heavy11_any l n hln hnn a c (by omega) w h
  rw [decide_eq_false (by omega : ¬ 6000 < opsH l)] at rh
  have RG : Hid (∀ X, Kept (fun k => k < w.heap.size) w X → Calls Tryz.prog 15 #[.slice a n c] X fun e w' => ∃ p r E M R G rk, e = .returned (.tuple #[.pointer (some ⟨p, 0, none⟩), .pointer (some ⟨r, 0, none⟩)]) ∧ Grown (fun k => k < X.heap.size) E w' p r M R G rk 300 ∧ Kept (fun k => k < X.heap.size) X w') := fun X hX => grown11 l n hln (by omega) a c hok (by omega) X (h.kept hX fun k hk => Nat.lt_of_lt_of_le hk hX.size)
  clear hln hok hb h
  go_enter Tryz.func4, Tryz.ntmps4
  go_wp2_with fail
  refine rh.mono ?_
  rintro e w1 ⟨rfl, k1⟩
  have rk0 := sknown_any w1
  clear rh
  go_wp2_with fail
  refine rk0.mono ?_
  rintro e w2 ⟨rfl, k2⟩
  have k12 : Kept (fun k => k < w.heap.size) w w2 := k1.trans (k2.mono fun k h => Nat.lt_of_lt_of_le h k1.size)
  have rg := RG.out w2 k12
  have HK12 : Hid (Kept (fun k => k < w.heap.size) w w2) := k12
  clear rk0 k1 k2 k12 RG
  go_wp2_with fail
  refine rg.mono ?_
  rintro e W ⟨p, r, E, M, R, G, rk, rfl, hG, hK⟩
  have HKW : Hid (Kept (fun k => k < w.heap.size) w W) := HK12.out.trans (hK.mono fun k h => Nat.lt_of_lt_of_le h HK12.out.size)
  obtain ⟨m, hm⟩ : ∃ m, M.n = m := ⟨_, rfl⟩
  have HM : Hid (M.n = m) := hm
  have hm300 : m ≤ 300 := by have h1 := hG.le; rw [hG.lim, hm] at h1; exact h1
  have RL : Hid (∀ X, Kept (fun k => k < W.heap.size) W X → Calls Tryz.prog 16 #[.pointer (some ⟨p, 0, none⟩)] X fun e w' => e = .returned (.int .i64 (m : Int)) ∧ w' = X) := fun X hX => by rw [← hm]; exact hG.len hX
  have HI : Hid (Inv M R G rk) := hG.inv
  have RD : Hid (∀ X, Kept (fun k => k < W.heap.size) W X → Rd (TK (fun k => k < w2.heap.size) E) X p M R G rk) := fun X hX => ⟨hG.two.d.kept hX, hG.inv, by omega⟩
  have RR : Hid (∀ X, Kept (fun k => k < W.heap.size) W X → Rr (TL (fun k => k < w2.heap.size) E X) X r M R G rk) := fun X hX => ⟨(hG.two.kept hX).r, hG.inv, by omega⟩
  have hm1 : 1 ≤ m := by rw [← hm]; exact hG.inv.core.pos
  have rl := RL.out W (Kept.refl _ _)
  obtain ⟨i, hi⟩ : ∃ i, za % m = i := ⟨_, rfl⟩
  have him : i < m := by rw [← hi]; exact Nat.mod_lt _ (by omega)
  have hi' : (za : Int).tmod (m : Int) = (i : Int) := by rw [← hi]; rfl
  have hin : i < M.n := by rw [hm]; exact him
  have HIN : Hid (i < M.n) := hin
  have rf := (RD.out W (Kept.refl _ _)).flat (i : Int)
  rw [flatI_in hin] at rf
  have hfl := hG.inv.flat_len hin
  obtain ⟨F, hF⟩ : ∃ F, flatL M R G i = F := ⟨_, rfl⟩
  rw [hF] at rf hfl
  have HF : Hid (flatL M R G i = F) := hF
  obtain ⟨fl, hfL⟩ : ∃ q, F.length = q := ⟨_, rfl⟩
  have HFL : Hid (F.length = fl) := hfL
  have hfl3 : fl ≤ 300 := by omega
  clear rg hG hK hm hi hin hF hfl hfL
  go_wp2_with fail
  refine rl.mono ?_
  rintro e w3 ⟨rfl, hw3⟩
  replace hw3 := hw3.symm
  subst hw3
  clear rl
  go_wp2_with fail
  refine rf.mono ?_
  rintro e U ⟨ao, fc, rfl, hO, hKU⟩
  rw [HFL.out]
  have HKU : Hid (Kept (fun k => k < W.heap.size) W U) := hKU
  have HNI : Hid (NewF U ao F) := fun j hj => by
    obtain ⟨g, e, hc⟩ := hO.cell (j := j) (u := iv F[j]) (by simp [ivs, hj])
    exact ⟨g, e, (hO.out (g := g) e).2, hc⟩
  clear rf hO hKU
  go_upto_region 8 with fail
  go_loopg [8] fl (fun gh v wr => ∃ j : Nat, gh = fl - j ∧ j ≤ fl ∧ v = .int .i64 (j : Int) ∧ Kept (fun k => k < U.heap.size) U wr)
  case atStart => exact ⟨0, rfl, Nat.zero_le _, rfl, Kept.refl _ _⟩
  case round =>
    obtain ⟨j, hg, hj, rfl, hKr⟩ := hrel
    have hKW : Kept (fun k => k < W.heap.size) W wr := HKU.out.trans (hKr.mono fun k h => Nat.lt_of_lt_of_le h HKU.out.size)
    have HKr : Hid (Kept (fun k => k < U.heap.size) U wr) := hKr
    have HKWr : Hid (Kept (fun k => k < W.heap.size) W wr) := hKW
    by_cases hlt : j < fl
    · have hjF : j < F.length := by rw [HFL.out]; exact hlt
      obtain ⟨g, hao, hgl, hc0⟩ := HNI.out j hjF
      obtain ⟨k, hk⟩ : ∃ k, F[j] = k := ⟨_, rfl⟩
      have hkm : k ∈ flatL M R G i := by rw [HF.out, ← hk]; exact List.getElem_mem hjF
      have hkn := (HI.out.flat_mem HIN.out hkm).2.1
      obtain ⟨hkd, hnm⟩ := HI.out.flat_name HIN.out hkm
      have hc : wr.cell? ⟨g, j, none⟩ = some (.int .i64 (k : Int)) := (hKr.cell (p := ⟨g, j, none⟩) hgl).trans (by rw [hc0, hk])
      have rn := (RD.out wr hKW).node hkn
      have HKN : Hid (k < M.n) := hkn
      have HGL : Hid (g < wr.heap.size) := Nat.lt_of_lt_of_le hgl hKr.size
      subst hao
      clear hc0 hk hkm hjF hKr hKW hkn hgl
      go_wp2_with fail
      refine rn.mono ?_
      rintro e v1 ⟨ao1, ac1, ko1, kc1, rfl, hA1, hQ1, hK1⟩
      obtain ⟨x, hx⟩ : ∃ x, M.nd k = x := ⟨_, rfl⟩
      obtain ⟨up1, hup1⟩ : ∃ z, (M.pl k).up = z := ⟨_, rfl⟩
      obtain ⟨ln1, hln1⟩ : ∃ z, (R k).length = z := ⟨_, rfl⟩
      rw [hx] at hkd hnm
      rw [hx, hup1, hln1]
      obtain ⟨V, N, hV, hN, hb, hk1, -⟩ := alloc_box v1 (nV x ao1 ac1 up1 ko1 ln1 kc1) 41
      have hkV : Kept (fun k => k < wr.heap.size) wr V := hK1.trans (hk1.mono fun k h => Nat.lt_of_lt_of_le h hK1.size)
      obtain ⟨S, hS⟩ : ∃ S, (⟨x.name.toArray⟩ : ByteArray) = S := ⟨_, rfl⟩
      have hSn : x.name = S.toList := by rw [← hS, ByteArray.toList_eq]
      have c1 : V.cell? ⟨N, 1, none⟩ = some (.string S) := by rw [cell_block hb, ← hS]; rfl
      have hcV : V.cell? ⟨g, j, none⟩ = some (.int .i64 (k : Int)) := (hkV.cell (p := ⟨g, j, none⟩) HGL.out).trans hc
      have HV : Hid (v1.alloc (.cells (nV x ao1 ac1 up1 ko1 ln1 kc1) 41) = V) := hV
      have HN : Hid (v1.heap.size = N) := hN
      have HKV : Hid (Kept (fun k => k < U.heap.size) U V) := HKr.out.trans (hkV.mono fun k h => Nat.lt_of_lt_of_le h HKr.out.size)
      have HKWV : Hid (Kept (fun k => k < W.heap.size) W V) := HKWr.out.trans (hkV.mono fun k h => Nat.lt_of_lt_of_le h HKWr.out.size)
      have kinds : x.kind = 1 ∧ V.cell? ⟨N, 0, none⟩ = some (.int .u8 1) ∨ x.kind = 2 ∧ V.cell? ⟨N, 0, none⟩ = some (.int .u8 2) := by
        rcases hkd with q | q
        · exact .inl ⟨q, by rw [cell_block hb]; show some (Value.int .u8 (x.kind : Int)) = _; rw [q]; rfl⟩
        · exact .inr ⟨q, by rw [cell_block hb]; show some (Value.int .u8 (x.kind : Int)) = _; rw [q]; rfl⟩
      have names : (S.toList == [115, 108, 111, 116]) = false ∨ (S.toList == [115, 108, 111, 116]) = true ∧ ofZ M (k : Int) = -1 := by
        rcases hnm with q | q
        · left; rw [hSn] at q; simpa using q
        · by_cases cc : S.toList = [115, 108, 111, 116]
          · right; exact ⟨by rw [cc]; rfl, q⟩
          · left; simpa using cc
      have ro := (RR.out V HKWV.out).of HKN.out
      clear rn hA1 hQ1 hK1 hx hup1 hln1 hV hN hb hk1 hkV hS hSn hc hkd hnm
      go_upto_region 11 with fail
      rw [HV.out, HN.out]
      clear HV HN
      rcases kinds with ⟨-, c0⟩ | ⟨-, c0⟩
      · rcases names with hs | ⟨hs, ho⟩
        · clear ro
          go_wp2
          go_roundg (fl - (j + 1))
          case rel => exact ⟨j + 1, rfl, by omega, by go_num, HKV.out⟩
          case measure => omega
        · rw [ho] at ro
          clear ho
          go_wp2_with fail
          refine ro.mono ?_
          rintro e Z ⟨rfl, hkZ⟩
          replace hkZ := hkZ.symm
          subst hkZ
          clear ro c0 c1 hcV
          go_wp2
          go_roundg (fl - (j + 1))
          case rel => exact ⟨j + 1, rfl, by omega, by go_num, HKV.out⟩
          case measure => omega
      · rcases names with hs | ⟨hs, ho⟩
        · clear ro
          go_wp2
          go_roundg (fl - (j + 1))
          case rel => exact ⟨j + 1, rfl, by omega, by go_num, HKV.out⟩
          case measure => omega
        · rw [ho] at ro
          clear ho
          go_wp2_with fail
          refine ro.mono ?_
          rintro e Z ⟨rfl, hkZ⟩
          replace hkZ := hkZ.symm
          subst hkZ
          clear ro c0 c1 hcV
          go_wp2
          go_roundg (fl - (j + 1))
          case rel => exact ⟨j + 1, rfl, by omega, by go_num, HKV.out⟩
          case measure => omega
    · have hjm : j = fl := by omega
      have HKe : Hid (Kept (fun k => k < w.heap.size) w wr) := HKW.out.trans (hKW.mono fun k h => Nat.lt_of_lt_of_le h HKW.out.size)
      have rl := RL.out wr hKW
      have ri := (RR.out wr hKW).is_in HIN.out
      clear hjm hKr hKW HKr hj hg
      by_cases h0 : fl = 0
      · subst h0
        clear rl ri
        go_wp2
        go_ret
        exact ⟨rfl, HKe.out⟩
      · have h0' : ((fl : Int) == 0) = false := by simp; omega
        have hS : isS M i = true := by
          have hne : F ≠ [] := fun e => h0 (by rw [← HFL.out, e]; rfl)
          obtain ⟨k, hk⟩ := List.exists_mem_of_ne_nil _ hne
          rw [← HF.out] at hk
          exact (HI.out.flat_mem HIN.out hk).1
        rw [hS] at ri
        clear hS
        go_wp2_with fail
        refine rl.mono ?_
        rintro e w4 ⟨rfl, hw4⟩
        replace hw4 := hw4.symm
        subst hw4
        clear rl
        go_wp2_with fail
        refine ri.mono ?_
        rintro e w5 ⟨rfl, hw5⟩
        replace hw5 := hw5.symm
        subst hw5
        clear ri
        go_wp2
        go_ret
        exact ⟨rfl, HKe.out⟩
theorem sflat_no (a : Option Addr) (n c : Nat) (w : World) (za : Int) (rh : Calls Tryz.prog 13 #[.slice a n c] w fun e w' => e = .returned (.bool true) ∧ Kept (fun k => k < w.heap.size) w w') :
    Calls Tryz.prog 4 #[.slice a n c, .int .u16 za] w fun e w' => e = .returned (.bool true) ∧ Kept (fun k => k < w.heap.size) w w' := by
  go_enter Tryz.func4, Tryz.ntmps4
  go_wp2_with fail
  refine rh.mono ?_
  rintro e w1 ⟨rfl, k1⟩
  have rk0 := sknown_any w1
  clear rh
  go_wp2_with (go_at_call 14; refine rk0.mono ?_; rintro e w2 ⟨rfl, k2⟩)
  go_ret
  exact ⟨rfl, k1.trans (k2.mono fun k h => Nat.lt_of_lt_of_le h k1.size)⟩
end Go.Proofs.YtkngpgkldkohgaaGreat
