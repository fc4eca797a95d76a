/-
  What holds of the plain functions: digits read as written, noughts ahead, no reference, parts.
-/
import Derived.Test.YtndlififfofcmaaDoorPure
import Derived.Test.YtndlififfofcmaaDoorDig
namespace Go.Proofs.YtndlififfofcmaaDoor

/-! ### Digits are read as they are written -/
theorem runN_all (b : Nat) : ∀ (ds : List UInt8) (c : UInt8) (r : List UInt8), (∀ d ∈ ds, digV d < b) → ¬ digV c < b → runN b (ds ++ c :: r) = ds.length
  | [], c, r, _, hc => by
    rw [List.nil_append, runN, if_neg hc]
    rfl
  | d :: ds, c, r, h, hc => by
    rw [List.cons_append, runN, if_pos (h d List.mem_cons_self), runN_all b ds c r (fun x hx => h x (List.mem_cons_of_mem _ hx)) hc]
    rfl
def hexC (k : Nat) : UInt8 := hexS.data.toList.getD k 0
theorem hex_one (k : Nat) (h : k < 16) : (hexS.extract k (k + 1)).data.toList = [hexC k] := by
  have key : ∀ k : Fin 16, (hexS.extract k.val (k.val + 1)).data.toList = [hexC k.val] := by decide
  exact key ⟨k, h⟩
theorem hex_digit (k : Nat) (h : k < 16) : digV (hexC k) = k ∧ hexC k ≠ 120 ∧ hexC k ≠ 88 := by
  have key : ∀ k : Fin 16, digV (hexC k.val) = k.val ∧ hexC k.val ≠ 120 ∧ hexC k.val ≠ 88 := by decide
  exact key ⟨k, h⟩
theorem digL_facts {b : Nat} (hb : 2 ≤ b) (hb2 : b ≤ 16) (n : Nat) : (∀ d ∈ digL b n, digV d < b ∧ d ≠ 120 ∧ d ≠ 88) ∧ digL b n ≠ [] ∧ (n / b ≤ 1114111 → codeL b (digL b n) = n) := by
  induction n using Nat.strongRecOn with
  | ind n ih =>
    by_cases h : n < b ∨ b < 2
    · have hn : n < b := by omega
      rw [digL_lt h, hex_one n (by omega)]
      obtain ⟨h1, h2, h3⟩ := hex_digit n (by omega)
      refine ⟨?_, by simp, fun _ => ?_⟩
      · intro d hd
        rw [List.mem_singleton] at hd
        subst hd
        exact ⟨by omega, h2, h3⟩
      · show codeF b 0 (hexC n) = n
        unfold codeF
        rw [if_pos (by omega), h1]
        omega
    · have hlt : n / b < n := Nat.div_lt_self (by omega) (by omega)
      obtain ⟨i1, i2, i3⟩ := ih _ hlt
      have hm : n % b < b := Nat.mod_lt _ (by omega)
      rw [digL_ge h, hex_one (n % b) (by omega)]
      obtain ⟨h1, h2, h3⟩ := hex_digit (n % b) (by omega)
      refine ⟨?_, by simp, fun hc => ?_⟩
      · intro d hd
        rcases List.mem_append.1 hd with hd | hd
        · exact i1 d hd
        · rw [List.mem_singleton] at hd
          subst hd
          exact ⟨by omega, h2, h3⟩
      · have hdd : n / b / b ≤ 1114111 := by
          have : n / b / b ≤ n / b := Nat.div_le_self _ _
          omega
        rw [codeL_snoc, i3 hdd]
        unfold codeF
        rw [if_pos hc, h1, Nat.mul_comm]
        exact Nat.div_add_mod n b
theorem semi59 (r : List UInt8) : semi (59 :: r) = true := rfl
theorem digV59 : digV 59 = 16 := by decide
/-- A number that is written in full, and ended. -/
theorem numR_full (x b : Nat) (hb : 10 ≤ b) (hb2 : b ≤ 16) (ds r : List UInt8) (hne : ds ≠ []) (hd : ∀ d ∈ ds, digV d < b) :
    numR x b (ds ++ 59 :: r) = ⟨Utf8.encode (meantC (codeL b ds)), 3 + x + ds.length, meantF (codeL b ds)⟩ := by
  have hrun := runN_all b ds 59 r hd (by rw [digV59]; omega)
  have hl : ds.length ≠ 0 := by simpa using hne
  unfold numR
  rw [hrun, if_neg hl, List.take_left, List.drop_left, semi59]
  congr 1
  · rw [if_pos rfl]; omega
  · rw [if_pos rfl]
    split <;> omega
theorem hexN_no {d : UInt8} {r : List UInt8} (h1 : d ≠ 120) (h2 : d ≠ 88) : hexN (d :: r) = 0 := by
  simp only [hexN]
  rw [if_neg (by rintro (h | h); exact h1 h; exact h2 h)]
theorem takeL_num (r : List UInt8) (attr : Bool) : takeL (38 :: 35 :: r) attr = numL r := by
  have h1 : amp (38 :: 35 :: r) = true := rfl
  have h2 : hash (35 :: r) = true := rfl
  unfold takeL refL
  rw [if_pos h1]
  simp only [List.drop_succ_cons, List.drop_zero]
  rw [if_pos h2]
theorem takeL_name (c : UInt8) (r : List UInt8) (attr : Bool) (h : c ≠ 35) : takeL (38 :: c :: r) attr = nameL (c :: r) attr := by
  have h1 : amp (38 :: c :: r) = true := rfl
  have h2 : ¬ hash (c :: r) = true := by
    show ¬ decide (c = 35) = true
    simpa using h
  unfold takeL refL
  rw [if_pos h1]
  simp only [List.drop_succ_cons, List.drop_zero]
  rw [if_neg h2]
theorem base0 : baseN 0 = 10 := rfl
theorem base1 : baseN 1 = 16 := rfl
theorem numL_dec {l : List UInt8} (h : hexN l = 0) : numL l = numR 0 10 l := by
  unfold numL
  rw [h, base0, List.drop_zero]
theorem numL_hex (l : List UInt8) : numL (120 :: l) = numR 1 16 l := by
  have h : hexN (120 :: l) = 1 := rfl
  unfold numL
  rw [h, base1, List.drop_succ_cons, List.drop_zero]
theorem take_dec (n : Nat) (hn : n / 10 ≤ 1114111) (m : List UInt8) (attr : Bool) : takeL (38 :: 35 :: (digL 10 n ++ 59 :: m)) attr = ⟨Utf8.encode (meantC n), 3 + (digL 10 n).length, meantF n⟩ := by
  obtain ⟨h1, h2, h3⟩ := digL_facts (b := 10) (by omega) (by omega) n
  have hx : hexN (digL 10 n ++ 59 :: m) = 0 := by
    cases hd : digL 10 n with
    | nil => exact absurd hd h2
    | cons d r =>
      have := h1 d (by rw [hd]; exact List.mem_cons_self)
      exact hexN_no this.2.1 this.2.2
  rw [takeL_num, numL_dec hx, numR_full 0 10 (by omega) (by omega) _ _ h2 (fun d hd => (h1 d hd).1), h3 hn]
theorem take_hex (n : Nat) (hn : n / 16 ≤ 1114111) (m : List UInt8) (attr : Bool) : takeL (38 :: 35 :: 120 :: (digL 16 n ++ 59 :: m)) attr = ⟨Utf8.encode (meantC n), 4 + (digL 16 n).length, meantF n⟩ := by
  obtain ⟨h1, h2, h3⟩ := digL_facts (b := 16) (by omega) (by omega) n
  rw [takeL_num, numL_hex, numR_full 1 16 (by omega) (by omega) _ _ h2 (fun d hd => (h1 d hd).1), h3 hn]

/-! ### Noughts ahead; too great a number -/
theorem fold_zeros (k : Nat) (l : List UInt8) : codeL 10 (List.replicate k 48 ++ l) = codeL 10 l := by
  induction k with
  | zero => rfl
  | succ k ih =>
    rw [List.replicate_succ, List.cons_append]
    exact ih
theorem take_zeros (k n : Nat) (hn : n / 10 ≤ 1114111) (attr : Bool) : takeL (38 :: 35 :: ((List.replicate k 48 ++ digL 10 n) ++ 59 :: [])) attr = ⟨Utf8.encode (meantC n), 3 + (k + (digL 10 n).length), meantF n⟩ := by
  obtain ⟨h1, h2, h3⟩ := digL_facts (b := 10) (by omega) (by omega) n
  have hz : digV 48 < 10 := by decide
  have hds : ∀ d ∈ List.replicate k 48 ++ digL 10 n, digV d < 10 := by
    intro d hd
    rcases List.mem_append.1 hd with hd | hd
    · rw [List.eq_of_mem_replicate hd]; exact hz
    · exact (h1 d hd).1
  have hne : List.replicate k 48 ++ digL 10 n ≠ [] := by
    intro h
    exact h2 (List.append_eq_nil_iff.1 h).2
  have hx : hexN ((List.replicate k 48 ++ digL 10 n) ++ 59 :: []) = 0 := by
    cases k with
    | succ k => exact hexN_no (by decide) (by decide)
    | zero =>
      cases hd : digL 10 n with
      | nil => exact absurd hd h2
      | cons d r =>
        have := h1 d (by rw [hd]; exact List.mem_cons_self)
        exact hexN_no this.2.1 this.2.2
  rw [takeL_num, numL_dec hx, numR_full 0 10 (by omega) (by omega) _ _ hne hds, fold_zeros, h3 hn, List.length_append, List.length_replicate]
theorem codeF_ge {x code : Nat} (c : UInt8) (h : x ≤ code) (_ : 1 ≤ code) : min (10 * x) 1114112 ≤ codeF 10 code c := by
  unfold codeF
  split <;> omega
theorem fold_ge : ∀ (l : List UInt8) (code : Nat), 1 ≤ code → code ≤ l.foldl (codeF 10) code
  | [], _, _ => Nat.le_refl _
  | c :: r, code, h => by
    have h1 : code ≤ codeF 10 code c := by
      unfold codeF
      split <;> omega
    exact Nat.le_trans h1 (fold_ge r _ (by omega))
theorem take_great (n : Nat) (attr : Bool) : (takeL (38 :: 35 :: ((57 :: (digL 10 n ++ [57, 57, 57, 57, 57, 57, 57, 57])) ++ 59 :: [])) attr).text = Utf8.encode (65533 : Nat) := by
  obtain ⟨h1, h2, h3⟩ := digL_facts (b := 10) (by omega) (by omega) n
  have hz : digV 57 < 10 := by decide
  have hds : ∀ d ∈ 57 :: (digL 10 n ++ [57, 57, 57, 57, 57, 57, 57, 57]), digV d < 10 := by
    intro d hd
    rcases List.mem_cons.1 hd with rfl | hd
    · exact hz
    · rcases List.mem_append.1 hd with hd | hd
      · exact (h1 d hd).1
      · have : d = 57 := by simpa using hd
        rw [this]; exact hz
  have hx : hexN ((57 :: (digL 10 n ++ [57, 57, 57, 57, 57, 57, 57, 57])) ++ 59 :: []) = 0 := hexN_no (by decide) (by decide)
  have hc : 1114111 < codeL 10 (57 :: (digL 10 n ++ [57, 57, 57, 57, 57, 57, 57, 57])) := by
    have e0 : codeL 10 (57 :: (digL 10 n ++ [57, 57, 57, 57, 57, 57, 57, 57])) = ((digL 10 n).foldl (codeF 10) 9 |> fun a => [57, 57, 57, 57, 57, 57, 57, 57].foldl (codeF 10) a) := by
      show (digL 10 n ++ [57, 57, 57, 57, 57, 57, 57, 57]).foldl (codeF 10) (codeF 10 0 57) = _
      rw [List.foldl_append]
      rfl
    rw [e0]
    have g0 := fold_ge (digL 10 n) 9 (by omega)
    obtain ⟨a, ha⟩ : ∃ a, (digL 10 n).foldl (codeF 10) 9 = a := ⟨_, rfl⟩
    rw [ha] at g0 ⊢
    dsimp only [List.foldl]
    have g1 := codeF_ge (x := 9) 57 g0 (by omega)
    obtain ⟨a1, ha1⟩ : ∃ a1, codeF 10 a 57 = a1 := ⟨_, rfl⟩
    rw [ha1] at g1 ⊢
    have g2 := codeF_ge (x := 90) 57 (code := a1) (by omega) (by omega)
    obtain ⟨a2, ha2⟩ : ∃ a2, codeF 10 a1 57 = a2 := ⟨_, rfl⟩
    rw [ha2] at g2 ⊢
    have g3 := codeF_ge (x := 900) 57 (code := a2) (by omega) (by omega)
    obtain ⟨a3, ha3⟩ : ∃ a3, codeF 10 a2 57 = a3 := ⟨_, rfl⟩
    rw [ha3] at g3 ⊢
    have g4 := codeF_ge (x := 9000) 57 (code := a3) (by omega) (by omega)
    obtain ⟨a4, ha4⟩ : ∃ a4, codeF 10 a3 57 = a4 := ⟨_, rfl⟩
    rw [ha4] at g4 ⊢
    have g5 := codeF_ge (x := 90000) 57 (code := a4) (by omega) (by omega)
    obtain ⟨a5, ha5⟩ : ∃ a5, codeF 10 a4 57 = a5 := ⟨_, rfl⟩
    rw [ha5] at g5 ⊢
    have g6 := codeF_ge (x := 900000) 57 (code := a5) (by omega) (by omega)
    obtain ⟨a6, ha6⟩ : ∃ a6, codeF 10 a5 57 = a6 := ⟨_, rfl⟩
    rw [ha6] at g6 ⊢
    have g7 := codeF_ge (x := 1114112) 57 (code := a6) (by omega) (by omega)
    obtain ⟨a7, ha7⟩ : ∃ a7, codeF 10 a6 57 = a7 := ⟨_, rfl⟩
    rw [ha7] at g7 ⊢
    have g8 := codeF_ge (x := 1114112) 57 (code := a7) (by omega) (by omega)
    omega
  have e : takeL (38 :: 35 :: ((57 :: (digL 10 n ++ [57, 57, 57, 57, 57, 57, 57, 57])) ++ 59 :: [])) attr = numR 0 10 ((57 :: (digL 10 n ++ [57, 57, 57, 57, 57, 57, 57, 57])) ++ 59 :: []) := by
    rw [takeL_num, numL_dec hx]
  have hm : meantC (codeL 10 (57 :: (digL 10 n ++ [57, 57, 57, 57, 57, 57, 57, 57]))) = 65533 := by
    unfold meantC
    rw [if_pos]
    unfold wrongC
    simp
    omega
  rw [e, numR_full 0 10 (by omega) (by omega) _ _ (by simp) hds, hm]

/-! ### No reference -/
theorem take_none {l : List UInt8} (h : 38 ∉ l) (attr : Bool) : takeL l attr = none0 := by
  unfold takeL
  rw [if_neg]
  cases l with
  | nil => decide
  | cons c r =>
    show ¬ decide (c = 38) = true
    simp
    intro hc
    exact h (hc ▸ List.mem_cons_self)
theorem all_none (attr : Bool) : ∀ (l : List UInt8), 38 ∉ l → allL attr l = l
  | [], _ => rfl
  | c :: r, h => by
    rw [allL_none (by rw [take_none h]; rfl), all_none attr r (fun hr => h (List.mem_cons_of_mem _ hr))]
theorem names_32 : ∀ r ∈ names, 32 ∉ r.name := by decide
theorem names_ne : ∀ r ∈ names, r.name ≠ [] := by decide
theorem lenN_32 {r : Nm} (h : 32 ∉ r.name) (hn : r.name ≠ []) (l : List UInt8) : lenN r (32 :: l) = 0 := by
  unfold lenN
  rw [if_neg]
  intro hp
  cases hr : r.name with
  | nil => exact hn hr
  | cons c t =>
    rw [hr] at hp h
    have : c = 32 := by
      simp [List.isPrefixOf] at hp
      exact hp.1
    exact h (this ▸ List.mem_cons_self)
theorem scan_none {l : List UInt8} : ∀ (rs : List Nm) (st : St), (∀ r ∈ rs, lenN r l = 0) → rs.foldl (stepN l) st = st
  | [], _, _ => rfl
  | r :: rs, st, h => by
    have : stepN l st r = st := by
      unfold stepN
      rw [if_neg (by rw [h r List.mem_cons_self]; omega)]
    rw [List.foldl_cons, this]
    exact scan_none rs st fun r hr => h r (List.mem_cons_of_mem _ hr)
theorem take_blank (l : List UInt8) (attr : Bool) : takeL (38 :: 32 :: l) attr = none0 := by
  have h : scanN (32 :: l) names = ⟨0, 0, false⟩ := scan_none names _ fun r hr => lenN_32 (names_32 r hr) (names_ne r hr) l
  rw [takeL_name 32 l attr (by decide)]
  unfold nameL endR
  rw [h, if_pos rfl]

/-! ### Parts -/
theorem prefix_blank : ∀ (p l t : List UInt8), 32 ∉ p → p.isPrefixOf (l ++ 32 :: t) = p.isPrefixOf l
  | [], l, t, _ => by simp
  | a :: p, [], t, h => by
    have : a ≠ 32 := fun e => h (e ▸ List.mem_cons_self)
    rw [List.nil_append]
    show ((a == 32) && p.isPrefixOf t) = false
    rw [show (a == 32) = false by simpa using this, Bool.false_and]
  | a :: p, c :: l, t, h => by
    rw [List.cons_append]
    show ((a == c) && p.isPrefixOf (l ++ 32 :: t)) = ((a == c) && p.isPrefixOf l)
    rw [prefix_blank p l t fun hp => h (List.mem_cons_of_mem _ hp)]
theorem semi_blank (l t : List UInt8) : semi (l ++ 32 :: t) = semi l := prefix_blank [59] l t (by decide)
theorem run_blank (b : Nat) (hb : b ≤ 16) : ∀ (l t : List UInt8), runN b (l ++ 32 :: t) = runN b l
  | [], t => by
    have h32 : digV 32 = 16 := by decide
    rw [List.nil_append]
    simp only [runN]
    rw [if_neg (by omega)]
  | c :: l, t => by rw [List.cons_append, runN, runN, run_blank b hb l t]
theorem numR_blank (x b : Nat) (hb : b ≤ 16) (l t : List UInt8) : numR x b (l ++ 32 :: t) = numR x b l := by
  have h := runN_le b l
  unfold numR
  rw [run_blank b hb l t, List.take_append_of_le_length h, List.drop_append_of_le_length h, semi_blank]
theorem hexN_blank (l t : List UInt8) : hexN (l ++ 32 :: t) = hexN l := by
  cases l with
  | nil => exact hexN_no (by decide) (by decide)
  | cons c l => rfl
theorem numL_blank (l t : List UInt8) : numL (l ++ 32 :: t) = numL l := by
  unfold numL
  rw [hexN_blank, List.drop_append_of_le_length (hexN_le l).1, numR_blank _ _ (baseN_le _).2]
theorem lenN_blank {r : Nm} (h : 32 ∉ r.name) (l t : List UInt8) : lenN r (l ++ 32 :: t) = lenN r l ∧ (r.name.isPrefixOf l = true → semi ((l ++ 32 :: t).drop r.name.length) = semi (l.drop r.name.length)) := by
  have hs : r.name.isPrefixOf l = true → semi ((l ++ 32 :: t).drop r.name.length) = semi (l.drop r.name.length) := by
    intro hp
    rw [List.drop_append_of_le_length (prefix_length _ _ hp), semi_blank]
  refine ⟨?_, hs⟩
  unfold lenN
  rw [prefix_blank _ _ _ h]
  by_cases hp : r.name.isPrefixOf l = true
  · rw [if_pos hp, if_pos hp, hs hp]
  · rw [if_neg hp, if_neg hp]
theorem scan_blank (l t : List UInt8) : ∀ (rs : List Nm) (st : St), (∀ r ∈ rs, 32 ∉ r.name) → rs.foldl (stepN (l ++ 32 :: t)) st = rs.foldl (stepN l) st
  | [], _, _ => rfl
  | r :: rs, st, h => by
    have hr := lenN_blank (h r List.mem_cons_self) l t
    have : stepN (l ++ 32 :: t) st r = stepN l st r := by
      unfold stepN
      rw [hr.1]
      by_cases hl : st.long < lenN r l
      · rw [if_pos hl, if_pos hl, hr.2]
        cases hp : r.name.isPrefixOf l with
        | true => rfl
        | false =>
          unfold lenN at hl
          rw [hp] at hl
          exact absurd hl (by simp)
      · rw [if_neg hl, if_neg hl]
    rw [List.foldl_cons, List.foldl_cons, this]
    exact scan_blank l t rs _ fun r hr => h r (List.mem_cons_of_mem _ hr)
theorem nameL_blank (l t : List UInt8) : nameL (l ++ 32 :: t) false = nameL l false := by
  unfold nameL endR scanN
  rw [scan_blank l t names _ names_32]
  simp only [Bool.false_and]
theorem take_blank_end (l t : List UInt8) : takeL (l ++ 32 :: t) false = takeL l false := by
  cases l with
  | nil =>
    have e1 : ¬ amp ([] ++ 32 :: t) = true := by
      show ¬ decide ((32 : UInt8) = 38) = true
      decide
    have e2 : ¬ amp ([] : List UInt8) = true := by decide
    unfold takeL
    rw [if_neg e1, if_neg e2]
  | cons c r =>
    unfold takeL
    have hr : refL (r ++ 32 :: t) false = refL r false := by
      unfold refL
      cases r with
      | nil =>
        have e1 : ¬ hash ([] ++ 32 :: t) = true := by
          show ¬ decide ((32 : UInt8) = 35) = true
          decide
        have e2 : ¬ hash ([] : List UInt8) = true := by decide
        rw [if_neg e1, if_neg e2, nameL_blank]
      | cons d r =>
        have e : hash ((d :: r) ++ 32 :: t) = hash (d :: r) := rfl
        rw [e, nameL_blank, List.cons_append, List.drop_succ_cons, List.drop_zero, numL_blank, List.drop_succ_cons, List.drop_zero]
    have e : amp ((c :: r) ++ 32 :: t) = amp (c :: r) := rfl
    rw [e, List.cons_append, List.drop_succ_cons, List.drop_zero, hr, List.drop_succ_cons, List.drop_zero]
theorem take_none32 (t : List UInt8) : takeL (32 :: t) false = none0 := by
  have h : ¬ amp (32 :: t) = true := by
    show ¬ decide ((32 : UInt8) = 38) = true
    decide
  unfold takeL
  rw [if_neg h]
theorem all_parts (t : List UInt8) : ∀ (n : Nat) (l : List UInt8), l.length ≤ n → allL false (l ++ 32 :: t) = allL false l ++ 32 :: allL false t := by
  intro n
  induction n with
  | zero =>
    intro l h
    rw [List.eq_nil_of_length_eq_zero (l := l) (by omega), List.nil_append, allL_none (by rw [take_none32]; rfl), allL_nil, List.nil_append]
  | succ n ih =>
    intro l h
    cases l with
    | nil => rw [List.nil_append, allL_none (by rw [take_none32]; rfl), allL_nil, List.nil_append]
    | cons c r =>
      have he := take_blank_end (c :: r) t
      by_cases h0 : (takeL (c :: r) false).n = 0
      · rw [allL_none h0, List.cons_append, allL_none (by rw [← List.cons_append, he]; exact h0), ih r (by simpa using h), List.cons_append]
      · have hle := takeL_n (c :: r) false
        rw [allL_some h0, allL_some (by rw [he]; exact h0), he, List.drop_append_of_le_length hle, ih _ (by rw [List.length_drop]; omega), List.append_assoc]
theorem all_len (attr : Bool) : ∀ (n : Nat) (l : List UInt8), l.length ≤ n → (allL attr l).length ≤ 4 * l.length := by
  intro n
  induction n with
  | zero =>
    intro l h
    rw [List.eq_nil_of_length_eq_zero (l := l) (by omega), allL_nil]
    exact Nat.zero_le _
  | succ n ih =>
    intro l h
    cases l with
    | nil => rw [allL_nil]; exact Nat.zero_le _
    | cons c r =>
      have hr : r.length ≤ n := by simpa using h
      by_cases h0 : (takeL (c :: r) attr).n = 0
      · rw [allL_none h0]
        have := ih r hr
        simp only [List.length_cons]
        omega
      · have hle := takeL_n (c :: r) attr
        have ht : (takeL (c :: r) attr).text.data.toList.length ≤ 4 := text_le (c :: r) attr
        have hd := ih ((c :: r).drop (takeL (c :: r) attr).n) (by rw [List.length_drop, List.length_cons]; omega)
        rw [List.length_drop] at hd
        rw [allL_some h0, List.length_append]
        omega
theorem all_length (attr : Bool) (l : List UInt8) : (allL attr l).length ≤ 4 * l.length := all_len attr l.length l (Nat.le_refl _)
theorem digL_pow {b : Nat} (hb : 2 ≤ b) (hb2 : b ≤ 16) : ∀ (k n : Nat), n < b ^ (k + 1) → (digL b n).length ≤ k + 1
  | 0, n, h => by
    have hn : n < b := by simpa using h
    rw [digL_lt (.inl hn), hex_one n (by omega)]
    exact Nat.le_refl _
  | k + 1, n, h => by
    by_cases hn : n < b ∨ b < 2
    · have hn' : n < b := by omega
      rw [digL_lt hn, hex_one n (by omega)]
      simp
    · have hm : n % b < b := Nat.mod_lt _ (by omega)
      rw [digL_ge hn, hex_one (n % b) (by omega), List.length_append]
      have hd : n / b < b ^ (k + 1) := by
        rw [Nat.div_lt_iff_lt_mul (by omega)]
        rw [Nat.pow_succ] at h
        exact h
      have := digL_pow hb hb2 k (n / b) hd
      simp
      omega
end Go.Proofs.YtndlififfofcmaaDoor
