/-
  The document's own slots: value, Shown, Is.
-/
import Derived.Test.YtfeinppedejlpaaGreatKFs
namespace Go.Proofs.YtfeinppedejlpaaGreat
set_option maxHeartbeats 8000000
set_option maxRecDepth 100000
open Go.RowKit Go.Sort
set_option linter.unusedVariables false
theorem zlt (x : Nd) (ao : Option Addr) (ac : Nat) (up : Int) (ko : Option Addr) (kn kc : Nat) (s : ByteArray) (X : World) (hl : x.attrs.length <= 1000) (ha : Zal (fun k => k < X.heap.size) X ao x.attrs) :
  Calls Tryz.prog 79 #[.agg (nV x ao ac up ko kn kc), .string s] X fun e w' => e = .returned (sv (atV s.toList x.attrs)) /\ Kept (fun k => k < X.heap.size) X w' := by
 obtain ⟨V, N, hV, hN, hb, hk, -⟩ := zar X (nV x ao ac up ko kn kc)   58
 have c3 : V.cell? ⟨N, 3, none⟩ = some (.slice ao x.attrs.length ac) := by rw [zaa hb]; rfl
 have haV : Zal (fun k => k < V.heap.size) V ao x.attrs := ha.kept hk fun k h => ltl h hk.size
 obtain ⟨n, hn⟩ : ∃ n, x.attrs.length = n := ⟨_, rfl⟩
 rw [hn] at c3 hl
 have HK : Hid (Kept (fun k => k < X.heap.size) X V) := hk
 have HV : Hid (X.alloc (.cells (nV x ao ac up ko kn kc) 58) = V) := hV
 have HN : Hid (X.heap.size = N) := hN
 have HA : Hid (Zal (fun k => k < V.heap.size) V ao x.attrs) := haV
 have HNN : Hid (x.attrs.length = n) := hn
 obtain ⟨v, hv⟩ : ∃ v, atV s.toList x.attrs = v := ⟨_, rfl⟩
 have HVV : Hid (atV s.toList x.attrs = v) := hv
 rw [hv]
 clear hV hN hb hk haV ha hn hv
 go_enter Tryz.func79, Tryz.ntmps79
 go_upto_region 2 with fail
 rw [HV.out, HN.out]
 clear HV HN
 go_loopg [5] n (fun gh v5 wr => ∃ j : Nat, gh = n - j /\ j <= n /\ v5 = .int .i64 (j : Int) /\ (∀ y ∈ x.attrs.take j, y.name ≠ s.toList) /\ wr = V)
 case atStart => exact ⟨0, rfl, Nat.zero_le _, rfl, fun y hy => by simp at hy, rfl⟩
 case round =>
  obtain ⟨j, hgj, hj, rfl, hno, rfl⟩ := hrel
  have HNO : Hid (∀ y ∈ x.attrs.take j, y.name ≠ s.toList) := hno
  clear hno
  by_cases hlt : j < n
  ·have hjl : j < x.attrs.length := by rw [HNN.out]; exact hlt
   obtain ⟨g, o, rfl, hg, a0, a1⟩ := HA.out j hjl
   have HJ : Hid (x.attrs.take (j + 1) = x.attrs.take j ++ [x.attrs[j]]) := List.take_succ_eq_append_getElem hjl
   obtain ⟨nb, hnb⟩ : ∃ nb, (⟨x.attrs[j].name.toArray⟩ : ByteArray) = nb := ⟨_, rfl⟩
   have HNB : Hid (x.attrs[j].name = nb.toList) := by rw [<- hnb, ByteArray.toList_eq]; exact rfl
   unfold sv at a0 a1
   rw [hnb] at a0
   obtain ⟨q, hq⟩ : ∃ q, (nb.toList == s.toList) = q := ⟨_, rfl⟩
   obtain ⟨vb, hvb⟩ : ∃ vb, (⟨x.attrs[j].value.toArray⟩ : ByteArray) = vb := ⟨_, rfl⟩
   have HVB : Hid ((⟨x.attrs[j].value.toArray⟩ : ByteArray) = vb) := hvb
   rw [hvb] at a1
   clear hnb hvb
   cases q with
   | true =>
    have HE : Hid (v = x.attrs[j].value) := by rw [<- HVV.out]; exact zn2 hjl (by rw [HNB.out]; simpa using hq) HNO.out
    go_wp2
    go_ret
    exact ⟨by rw [HE.out]; show _ = Ending.returned (.string ⟨x.attrs[j].value.toArray⟩); rw [HVB.out]; rfl, HK.out⟩
   | false =>
    have h0 : nb.toList ≠ s.toList := by simpa using hq
    have HNE : Hid (x.attrs[j].name ≠ s.toList) := by rw [HNB.out]; exact h0
    clear h0
    go_wp2
    go_roundg (n - (j + 1))
    case rel =>
     refine ⟨j + 1, rfl, by omega, by go_num, fun y hy => ?_, rfl⟩
     rw [HJ.out] at hy
     rcases List.mem_append.1 hy with h | h
     ·exact HNO.out y h
     ·rw [List.mem_singleton.1 h]; exact HNE.out
    case measure => omega
  ·have hjn : n = j := by omega
   subst hjn
   have HE : Hid (v = []) := by rw [<- HVV.out]; exact znl fun y hy => HNO.out y (by rw [List.take_of_length_le (by rw [HNN.out]; exact Nat.le_refl _)]; exact hy)
   go_wp2
   go_ret
   exact ⟨by rw [HE.out]; rfl, HK.out⟩
theorem enter79 (args : Array Value) (X : World) : (callFunc 79 args).run Tryz.prog X = .ok (.enter 79 args) X := zan Tryz.func79 (by kernel_rfl) (c := _) rfl args X
section
variable {K : Nat -> Prop} {w : World} {p : Nat} {M : Dm} {R G : Nat -> List Nat} {rk : Nat -> Nat}
theorem Rr.shown_no (h : Rr K w p M R G rk) {i : Int} (hi : i < 0 \/ (M.n : Int) <= i) : Calls Tryz.prog 76 #[.pointer (some ⟨p, 0, none⟩), .int .i64 i] w fun e w' => e = .returned (.bool false) /\ w' = w := by
 obtain ⟨A, hY⟩ := h.r
 have c1 := hY.c1
 obtain ⟨m, hm⟩ : ∃ m, M.n = m := ⟨_, rfl⟩
 rw [hm] at c1 hi
 clear hY h hm
 by_cases h0 : 0 <= i
 ·have e0 : decide (i >= 0) = true := decide_eq_true h0
  have e1 : decide (i < (m : Int)) = false := decide_eq_false (by omega)
  clear hi h0
  go_enter Tryz.func76, Tryz.ntmps76
  go_wp2
  go_ret
  exact ⟨rfl, rfl⟩
 ·have e0 : decide (i >= 0) = false := decide_eq_false h0
  clear hi h0
  go_enter Tryz.func76, Tryz.ntmps76
  go_wp2
  go_ret
  exact ⟨rfl, rfl⟩
theorem Rr.shown_in (h : Rr K w p M R G rk) {i : Nat} (hi : i < M.n) : Calls Tryz.prog 76 #[.pointer (some ⟨p, 0, none⟩), .int .i64 (i : Int)] w fun e w' => e = .returned (.bool (za0 (M.nd i))) /\ w' = w := by
 obtain ⟨g, nc, ka, kc, hN⟩ := h.r.nodeAt hi
 have hA := hN w (Kept.refl _ _)
 have c1 := hA.c1
 have c0 := hA.c0
 obtain ⟨kd, hkd⟩ : ∃ kd, (M.nd i).kind = kd := ⟨_, rfl⟩
 have hle := h.le
 obtain ⟨q, hq⟩ : ∃ q, za0 (M.nd i) = q := ⟨_, rfl⟩
 have hqq : q = true ↔ kd = 1 \/ kd = 2 := by rw [<- hq, <- hkd]; exact zgp
 obtain ⟨m, hm⟩ : ∃ m, M.n = m := ⟨_, rfl⟩
 rw [hm] at c1 hi hle
 rw [hkd] at c0
 rw [hq]
 have e0 : decide ((i : Int) >= 0) = true := decide_eq_true (by omega)
 have e9 : decide ((i : Int) < (m : Int)) = true := decide_eq_true (by omega)
 clear hA hN h hm hkd hq
 by_cases k1 : kd = 1
 ·subst k1
  have := hqq.2 (.inl rfl)
  subst this
  clear hqq
  go_enter Tryz.func76, Tryz.ntmps76
  go_wp2
  go_ret
  exact ⟨rfl, rfl⟩
 ·have e1 : ((kd : Int) == 1) = false := by simp; omega
  by_cases k2 : kd = 2
  ·subst k2
   have := hqq.2 (.inr rfl)
   subst this
   clear hqq k1 e1
   go_enter Tryz.func76, Tryz.ntmps76
   go_wp2
   go_ret
   exact ⟨rfl, rfl⟩
  ·have e2 : ((kd : Int) == 2) = false := by simp; omega
   have hqf : q = false := by cases q with | false => rfl | true => exact absurd (hqq.1 rfl) (by omega)
   subst hqf
   clear hqq k1 k2
   go_enter Tryz.func76, Tryz.ntmps76
   go_wp2
   go_ret
   exact ⟨rfl, rfl⟩
theorem Rr.of (h : Rr K w p M R G rk) {i : Nat} (hi : i < M.n) : Calls Tryz.prog 78 #[.pointer (some ⟨p, 0, none⟩), .int .i64 (i : Int)] w fun e w' => e = .returned (.int .i64 (ofZ M (i : Int))) /\ w' = w :=
 (zs9 K p i M R G rk w h.r h.inv.good hi (Nat.le_trans h.le (by decide))).mono fun e w' ⟨z, hz, he, hw⟩ => ⟨by rw [he, zcr hi hz], hw⟩
theorem RX.name (h : RX K TT w p M R G) {i : Nat} (hi : i < M.n) : ∃ g nc, ∀ Y, Kept (fun k => k < w.heap.size) w Y -> Y.cell? ⟨p, 1, none⟩ = some (.slice (some ⟨g, 0, none⟩) M.n nc) /\ Y.cell? ⟨g, i * 14, none⟩ = some (.int .u8 ((M.nd i).kind : Int)) /\ Y.cell? ⟨g, i * 14 + 1, none⟩ = some (sv (M.nd i).name) := by
 obtain ⟨A, h⟩ := h
 obtain ⟨g, hg, -, -, -⟩ := h.nat (by omega)
 refine ⟨g, A.nc, fun Y hY => ?_⟩
 have h' := h.kept hY
 exact ⟨by rw [h'.c1, hg], h'.cell hg hi 0 _ rfl, h'.cell hg hi 1 _ rfl⟩
theorem Rr.is_no (h : Rr K w p M R G rk) {i : Int} (hi : i < 0 \/ (M.n : Int) <= i) : Calls Tryz.prog 82 #[.pointer (some ⟨p, 0, none⟩), .int .i64 i] w fun e w' => e = .returned (.bool false) /\ w' = w := by
 have r1 := h.shown_no hi
 clear h hi
 go_enter Tryz.func82, Tryz.ntmps82
 go_wp2_with (go_at_call 76; refine r1.mono ?_; rintro e1 w3 ⟨rfl, hw3⟩; replace hw3 := hw3.symm; subst hw3)
 go_ret
 exact ⟨rfl, rfl⟩
theorem Rr.is_in (h : Rr K w p M R G rk) {i : Nat} (hi : i < M.n) : Calls Tryz.prog 82 #[.pointer (some ⟨p, 0, none⟩), .int .i64 (i : Int)] w fun e w' => e = .returned (.bool (isS M i)) /\ w' = w := by
 have r1 := h.shown_in hi
 have r2 := h.of hi
 obtain ⟨g, nc, hN⟩ := h.r.name hi
 obtain ⟨c1, c0, cn⟩ := hN w (Kept.refl _ _)
 have hle := h.le
 have hz := h.inv.ofz hi
 obtain ⟨q, hq⟩ : ∃ q, za0 (M.nd i) = q := ⟨_, rfl⟩
 obtain ⟨z, hzz⟩ : ∃ z, ofZ M (i : Int) = z := ⟨_, rfl⟩
 have hz' : z = -1 \/ 0 <= z := by
  rcases hz with ⟨t, _, _, e, _⟩ | ⟨t, _, _, e, _⟩ <;> omega
 obtain ⟨b, hb⟩ : ∃ b, isS M i = b := ⟨_, rfl⟩
 obtain ⟨kd, hkd⟩ : ∃ kd, (M.nd i).kind = kd := ⟨_, rfl⟩
 have hqq : q = true ↔ kd = 1 \/ kd = 2 := by rw [<- hq, <- hkd]; exact zgp
 obtain ⟨nb, hnb⟩ : ∃ nb, (⟨(M.nd i).name.toArray⟩ : ByteArray) = nb := ⟨_, rfl⟩
 have hnn : (M.nd i).name = nb.toList := by rw [<- hnb, ByteArray.toList_eq]
 have hbb : b = true ↔ kd = 1 /\ nb.toList = zbh /\ z ≠ -1 := by
  rw [<- hb]
  unfold isS
  rw [Bool.and_eq_true, zbw, decide_eq_true_eq, hkd, hnn, hzz, and_assoc]
 obtain ⟨m, hm⟩ : ∃ m, M.n = m := ⟨_, rfl⟩
 unfold sv at cn
 rw [hnb] at cn
 rw [hm] at c1 hi hle
 rw [hkd] at c0
 rw [hq] at r1
 rw [hzz] at r2
 rw [hb]
 have HBB : Hid (b = true ↔ kd = 1 /\ nb.toList = zbh /\ z ≠ -1) := hbb
 clear hN h hm hkd hq hz hzz hb hnb hnn hbb
 by_cases k1 : kd = 1
 ·subst k1
  have hqt := hqq.2 (.inl rfl)
  subst hqt
  obtain ⟨qs, hqs⟩ : ∃ q, (nb.toList == [115, 108, 111, 116]) = q := ⟨_, rfl⟩
  cases qs with
  | true =>
   obtain ⟨qz, hqz⟩ : ∃ q, decide (z >= 0) = q := ⟨_, rfl⟩
   have hbz : b = qz := by
    have h1 : nb.toList = zbh := by simpa using hqs
    cases qz with
    | true => exact HBB.out.2 ⟨rfl, h1, by have := of_decide_eq_true hqz; omega⟩
    | false =>
     have h2 := of_decide_eq_false hqz
     cases b with
     | false => rfl
     | true => have := (HBB.out.1 rfl).2.2; omega
   subst hbz
   clear HBB hqq hz'
   go_enter Tryz.func82, Tryz.ntmps82
   go_wp2_with (first | (go_at_call 76; refine r1.mono ?_; rintro e1 w3 ⟨rfl, hw3⟩; replace hw3 := hw3.symm; subst hw3) | (go_at_call 78; refine r2.mono ?_; rintro e1 w3 ⟨rfl, hw3⟩; replace hw3 := hw3.symm; subst hw3))
   go_ret
   exact ⟨by simp, rfl⟩
  | false =>
   have hbf : b = false := by
    cases b with
    | false => rfl
    | true => have := (HBB.out.1 rfl).2.1; rw [this] at hqs; simp at hqs
   subst hbf
   clear HBB hqq hz' r2
   go_enter Tryz.func82, Tryz.ntmps82
   go_wp2_with (go_at_call 76; refine r1.mono ?_; rintro e1 w3 ⟨rfl, hw3⟩; replace hw3 := hw3.symm; subst hw3)
   go_ret
   exact ⟨rfl, rfl⟩
 ·have e1 : ((kd : Int) == 1) = false := by simp; omega
  have hbf : b = false := by
   cases b with
   | false => rfl
   | true => exact absurd (HBB.out.1 rfl).1 k1
  subst hbf
  clear HBB hqq hz' r2 k1
  go_enter Tryz.func82, Tryz.ntmps82
  cases q with
  | true =>
   go_wp2_with (go_at_call 76; refine r1.mono ?_; rintro e1 w3 ⟨rfl, hw3⟩; replace hw3 := hw3.symm; subst hw3)
   go_ret
   exact ⟨rfl, rfl⟩
  | false =>
   go_wp2_with (go_at_call 76; refine r1.mono ?_; rintro e1 w3 ⟨rfl, hw3⟩; replace hw3 := hw3.symm; subst hw3)
   go_ret
   exact ⟨rfl, rfl⟩
end
end Go.Proofs.YtfeinppedejlpaaGreat
