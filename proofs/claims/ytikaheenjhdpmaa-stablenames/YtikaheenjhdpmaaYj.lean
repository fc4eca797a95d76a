/-
  The chapter's example holds (known), and what Stable and Same answer of small documents.
-/
import Derived.Test.YtikaheenjhdpmaaYi
import Derived.Test.YtikaheenjhdpmaaDn
namespace Go.Proofs.Ytikaheenjhdpmaa
open Go.RowKit Go.Sort
set_option linter.unusedVariables false
set_option maxRecDepth 100000
set_option maxHeartbeats 8000000
abbrev elN (nm : List UInt8) : Nd := (Mk.nd ⟨1, nm, [], []⟩).new
abbrev lfN (kd : Nat) (d : List UInt8) : Nd := (Mk.nd ⟨kd, [], d, []⟩).new
section
variable {L : Nat} {K : Nat → Prop} {w w' : World} {p : Nat} {xs : List Nd} {Q : Nat → List Nat} {M : Dm} {R G : Nat → List Nat} {rk : Nat → Nat}
theorem Dl.tr_leaf (hd : Dl L M R G xs Q) (hI : Inv M R G rk) {i : Nat} (hi : i < xs.length) (hs : xs[i].shadow = -1) (hq : Q i = []) : tr M.n (fwd M R) i = [i] := by
  have e : fwd M R i = [] := by unfold fwd; rw [hd.nd i hi, if_pos hs, hd.r, hq]
  rw [tr_eq hI.only.falls (by rw [hd.n]; exact hi), e]
  rfl
theorem Dl.tr_one (hd : Dl L M R G xs Q) (hI : Inv M R G rk) {i k : Nat} (hi : i < xs.length) (hk : k < xs.length) (hs : xs[i].shadow = -1) (hsk : xs[k].shadow = -1) (hq : Q i = [k]) (hqk : Q k = []) : tr M.n (fwd M R) i = [i, k] := by
  have e : fwd M R i = [k] := by unfold fwd; rw [hd.nd i hi, if_pos hs, hd.r, hq]
  rw [tr_eq hI.only.falls (by rw [hd.n]; exact hi), e, List.flatMap_cons, List.flatMap_nil, hd.tr_leaf hI hk hsk hqk]
  rfl
theorem Dl.stab_bad (hd : Dl L M R G xs Q) {i : Nat} (hi : i < xs.length) (hb : bareP xs[i] = false) : stabP M R i = false := by
  unfold stabP; rw [hd.nd i hi, hb]; rfl
theorem Dl.stab_leaf (hd : Dl L M R G xs Q) (hI : Inv M R G rk) {i : Nat} (hi : i < xs.length) (hs : xs[i].shadow = -1) (hq : Q i = []) : stabP M R i = bareP xs[i] := by
  unfold stabP
  rw [hd.tr_leaf hI hi hs hq, hd.nd i hi]
  exact Bool.and_true _
theorem Dl.stab_one (hd : Dl L M R G xs Q) (hI : Inv M R G rk) {i k : Nat} (hi : i < xs.length) (hk : k < xs.length) (hs : xs[i].shadow = -1) (hsk : xs[k].shadow = -1) (hq : Q i = [k]) (hqk : Q k = []) : stabP M R i = (bareP xs[i] && readP xs[k]) := by
  unfold stabP
  rw [hd.tr_one hI hi hk hs hsk hq hqk, hd.nd i hi]
  show (bareP xs[i] && (readP (M.nd k) && (passP 0 (M.nd k).kind 0 && true))) = _
  rw [hd.nd k hk]
  have e : passP 0 xs[k].kind 0 = true := by unfold passP; simp
  rw [e]
  simp
theorem Dl.alk_one (hd : Dl L M R G xs Q) {i k : Nat} (hi : i < xs.length) (hk : k < xs.length) (hsk : xs[k].shadow = -1) (hck : xs[k].content = -1) (hq : Q i = [k]) (hqk : Q k = []) : alk M M R R (M.n + 1) i i = true := by
  have h0 : 0 < M.n := by rw [hd.n]; omega
  obtain ⟨n, hn⟩ : ∃ n, M.n = n + 1 := ⟨M.n - 1, by omega⟩
  rw [hn]
  have e1 : R i = [k] := by rw [hd.r, hq]
  have e2 : R k = [] := by rw [hd.r, hqk]
  show all2 (pairW (alk M M R R (n + 1)) M M) (R i) (R i) = true
  rw [e1]
  show (pairW (alk M M R R (n + 1)) M M k k && true) = true
  have e3 : alk M M R R (n + 1) k k = true := by
    show all2 (pairW (alk M M R R n) M M) (R k) (R k) = true
    rw [e2]; rfl
  have e4 : ∀ x : Nd, faceB x x = true := fun x => by simp [faceB]
  unfold pairW besW
  rw [hd.nd k hk, hsk, hck, e4, (atrsB_iff _ _).2 rfl, e3]
  rfl
theorem Dl.alk_ne (hd : Dl L M R G xs Q) {i j k : Nat} (hi : i < xs.length) (hq : Q i = [k]) (hqj : Q j = []) : alk M M R R (M.n + 1) i j = false := by
  show all2 (pairW (alk M M R R M.n) M M) (R i) (R j) = false
  rw [hd.r, hq, hqj]
  rfl
theorem Dq.stable (h : Dq L K w p xs Q) (sz : ∀ x ∈ xs, x.data.length ≤ 4000000000) (i : Nat) (hi : i < xs.length) (b : Bool) (hb : ∀ M R G rk, Inv M R G rk → Dl L M R G xs Q → stabP M R i = b) :
    Calls Try.prog 8 #[.pointer (some ⟨p, 0, none⟩), .int .i64 (i : Int)] w fun e w' => e = .returned (.bool b) ∧ Kept (fun k => k < w.heap.size) w w' := by
  obtain ⟨M, R, G, hK, hd⟩ := h
  obtain ⟨rk, hI⟩ := hK.inv
  have r := stable_in hI (Nat.le_trans hK.le hK.lim) (fun k hk => by rw [hd.nd k (by rw [← hd.n]; exact hk)]; exact sz _ (List.getElem_mem _)) i (by rw [hd.n]; exact hi) w hK.d
  rw [hb M R G rk hI hd] at r
  exact r
theorem Dq.same (h : Dq L K w p xs Q) (i j : Nat) (hi : i < xs.length) (hj : j < xs.length) (b : Bool) (hb : ∀ M R G rk, Inv M R G rk → Dl L M R G xs Q → alk M M R R (M.n + 1) i j = b) :
    Calls Try.prog 11 #[.pointer (some ⟨p, 0, none⟩), .int .i64 (i : Int), .pointer (some ⟨p, 0, none⟩), .int .i64 (j : Int)] w fun e w' => e = .returned (.bool b) ∧ Kept (fun k => k < w.heap.size) w w' := by
  obtain ⟨M, R, G, hK, hd⟩ := h
  obtain ⟨rk, hI⟩ := hK.inv
  have hn : M.n ≤ 100000 := Nat.le_trans hK.le hK.lim
  have nd : ∀ i, i < M.n → ∀ V, Kept (fun k => k < w.heap.size) w V → Calls Try.prog 20 #[.pointer (some ⟨p, 0, none⟩), .int .i64 (i : Int)] V fun e w' => Told V (M.nd i) (M.pl i).up (R i) e w' := fun i hi V hV => node_any K p i M R V (hK.d.kept hV) hI.good.wf hi (by omega) hI.good.few
  have r := same_in hI hI hn hn ⟨nd, nd⟩ (M.n + 1) i j (by rw [hd.n]; exact hi) (by rw [hd.n]; exact hj) (Nat.lt_succ_of_le (dn_le ..)) w (Kept.refl _ _)
  rw [hb M R G rk hI hd] at r
  exact r
end
theorem known17_any (w : World) : Calls Try.prog 5 #[] w fun e w' => e = .returned (.bool true) ∧ Kept (fun k => k < w.heap.size) w w' := by
  have r0 := new_yes 9 w (by decide) (by decide)
  go_enter Try.func5, Try.ntmps5
  go_wp2_with fail
  refine r0.mono ?_
  rintro e w1 ⟨p, rfl, hp, hX1, hK1⟩
  have s1 := Dq.start (by decide) (by decide) hX1
  have r1 := s1.makeA 1 ⟨#[100, 105, 118]⟩ ⟨#[]⟩ [] none 0 0 rest0 [100, 105, 118] [] (by rw [ByteArray.toList_eq]) (by rw [ByteArray.toList_eq]) rfl (by decide) (AtsAt.nil _ _ _) (by decide) (by decide +kernel) (by decide) rfl (by decide) (by decide)
  have HK1 : Hid (Kept (fun k => k < w.heap.size) w w1) := hK1
  clear r0 hp hX1 hK1 s1
  go_wp2_with fail
  refine r1.mono ?_
  rintro e w2 ⟨rfl, s2, hK2⟩
  have r2 := s2.makeA 1 ⟨#[112]⟩ ⟨#[]⟩ [] none 0 0 rest0 [112] [] (by rw [ByteArray.toList_eq]) (by rw [ByteArray.toList_eq]) rfl (by decide) (AtsAt.nil _ _ _) (by decide) (by decide +kernel) (by decide) rfl (by decide) (by decide)
  have HK2 : Hid (Kept (fun k => k < w.heap.size) w w2) := HK1.out.trans hK2
  clear r1 s2 hK2 HK1
  go_wp2_with fail
  refine r2.mono ?_
  rintro e w3 ⟨rfl, s3, hK3⟩
  have hsz : ∀ x ∈ [frag0.new, elN [100, 105, 118], elN [112]], x.data.length ≤ 4000000000 := by
    intro x hx
    simp only [List.mem_cons, List.not_mem_nil, or_false] at hx
    rcases hx with rfl | rfl | rfl <;> decide
  have HSZ : Hid _ := hsz
  have r3 : Calls Try.prog 8 #[.pointer (some ⟨p, 0, none⟩), .int .i64 1] w3 fun e w' => e = .returned (.bool true) ∧ Kept (fun k => k < w3.heap.size) w3 w' := Dq.stable s3 hsz 1 (by simp) true (fun M R G rk hI hd => (hd.stab_leaf hI (by simp) rfl rfl).trans (by decide))
  have HK3 : Hid (Kept (fun k => k < w.heap.size) w w3) := HK2.out.trans hK3
  have S3 : Hid _ := s3
  clear r2 s3 hK3 HK2 hsz
  go_wp2_with fail
  refine r3.mono ?_
  rintro e w4 ⟨rfl, hK4⟩
  have s4 := Dq.kept S3.out hK4
  have r4 := Dq.ins s4 1 2 (by simp) (by simp) (by decide) (by decide +kernel) (by decide) (by decide) (by decide) (fun u hu h => by cases h) rfl (fun k hk => by
    match k, hk with
    | 0, _ => exact (by decide : (-1 : Int) ≠ 2)
    | 1, _ => exact (by decide : (-1 : Int) ≠ 2)
    | 2, _ => exact (by decide : (-1 : Int) ≠ 2))
  have HK4 : Hid (Kept (fun k => k < w.heap.size) w w4) := HK3.out.trans (hK4.mono fun k h => Nat.lt_of_lt_of_le h HK3.out.size)
  clear r3 s4 hK4 HK3 S3
  go_wp2_with fail
  refine r4.mono ?_
  rintro e w5 ⟨rfl, s5, hK5⟩
  have q1 : updR (fun _ => []) 1 ([] ++ [2]) 1 = [2] := rfl
  have q2 : updR (fun _ => []) 1 ([] ++ [2]) 2 = [] := rfl
  have R5 : Hid (∀ X, Kept (fun k => k < w5.heap.size) w5 X → Calls Try.prog 8 #[.pointer (some ⟨p, 0, none⟩), .int .i64 1] X fun e w' => e = .returned (.bool false) ∧ Kept (fun k => k < X.heap.size) X w') := fun X hX =>
    Dq.stable (s5.kept hX) HSZ.out 1 (by simp) false (fun M R G rk hI hd => (hd.stab_one hI (k := 2) (by simp) (by simp) rfl rfl rfl rfl).trans (by decide +kernel))
  have R6 : Hid (∀ X, Kept (fun k => k < w5.heap.size) w5 X → Calls Try.prog 11 #[.pointer (some ⟨p, 0, none⟩), .int .i64 1, .pointer (some ⟨p, 0, none⟩), .int .i64 1] X fun e w' => e = .returned (.bool true) ∧ Kept (fun k => k < X.heap.size) X w') := fun X hX =>
    Dq.same (s5.kept hX) 1 1 (by simp) (by simp) true (fun M R G rk hI hd => hd.alk_one (k := 2) (by simp) (by simp) rfl rfl rfl rfl)
  have R7 : Hid (∀ X, Kept (fun k => k < w5.heap.size) w5 X → Calls Try.prog 11 #[.pointer (some ⟨p, 0, none⟩), .int .i64 1, .pointer (some ⟨p, 0, none⟩), .int .i64 2] X fun e w' => e = .returned (.bool false) ∧ Kept (fun k => k < X.heap.size) X w') := fun X hX =>
    Dq.same (s5.kept hX) 1 2 (by simp) (by simp) false (fun M R G rk hI hd => hd.alk_ne (k := 2) (by simp) rfl rfl)
  have r5 := R5.out w5 (Kept.refl _ _)
  have HK5 : Hid (Kept (fun k => k < w.heap.size) w w5) := HK4.out.trans hK5
  clear r4 s5 hK5 HK4 q1 q2 R5
  go_wp2_with fail
  refine r5.mono ?_
  rintro e w6 ⟨rfl, hK6⟩
  have r6 := R6.out w6 hK6
  have H56 : Hid (Kept (fun k => k < w5.heap.size) w5 w6) := hK6
  clear r5 hK6 R6
  go_wp2_with fail
  refine r6.mono ?_
  rintro e w7 ⟨rfl, hK7⟩
  have H57 : Hid (Kept (fun k => k < w5.heap.size) w5 w7) := H56.out.trans (hK7.mono fun k h => Nat.lt_of_lt_of_le h H56.out.size)
  have r7 := R7.out w7 H57.out
  clear r6 hK7 R7
  go_wp2_with fail
  refine r7.mono ?_
  rintro e w8 ⟨rfl, hK8⟩
  have HK8 : Hid (Kept (fun k => k < w.heap.size) w w8) := HK5.out.trans ((H57.out.trans (hK8.mono fun k h => Nat.lt_of_lt_of_le h H57.out.size)).mono fun k h => Nat.lt_of_lt_of_le h HK5.out.size)
  clear r7 hK8
  go_wp2
  go_ret
  exact ⟨rfl, HK8.out⟩
end Go.Proofs.Ytikaheenjhdpmaa
