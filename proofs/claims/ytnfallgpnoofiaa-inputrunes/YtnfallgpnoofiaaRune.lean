/-
  What the plain decoder makes of characters as they are written in UTF-8, whole and cut short. No program is named here.
-/
import Derived.Test.YtnfallgpnoofiaaSpec
import Derived.Laws.Runes
import Derived.Laws.Cover4
namespace Go.Proofs.Ytnfallgpnoofiaa

/-- The bytes t may come, the first one from lo to hi. -/
def contOk : UInt8 → UInt8 → List UInt8 → Prop
  | _, _, [] => True
  | lo, hi, d :: r => lo.toNat ≤ d.toNat ∧ d.toNat ≤ hi.toNat ∧ contOk 128 191 r

/-- A character of more than one byte. -/
structure CharB (l : List UInt8) : Prop where
  ex : ∃ c t, l = c :: t ∧ t ≠ [] ∧ (behindS c).1 = t.length ∧ contOk (behindS c).2.1 (behindS c).2.2 t

theorem ch_cont : ∀ (t p : List UInt8) (lo hi : UInt8) (rest : List UInt8), t ≠ [] → contOk lo hi t → ch p t.length lo hi (t ++ rest) = p ++ t ++ ch0 rest
  | [], _, _, _, _, h, _ => absurd rfl h
  | [d], p, lo, hi, rest, _, hc => by
    obtain ⟨h1, h2, _⟩ := hc
    simp only [List.cons_append, List.nil_append, List.length_cons, List.length_nil]
    rw [ch, if_neg (by omega), if_neg (by omega), if_pos (by omega)]
    simp [ch0]
  | d :: e :: t, p, lo, hi, rest, _, hc => by
    obtain ⟨h1, h2, h3⟩ := hc
    have ih := ch_cont (e :: t) (p ++ [d]) 128 191 rest (by simp) h3
    rw [List.cons_append, ch, if_neg (by simp), if_neg (by omega), if_neg (by simp)]
    have el : (d :: e :: t).length - 1 = (e :: t).length := by simp
    rw [el, ih]
    simp
theorem ch_cut : ∀ (t u p : List UInt8) (lo hi : UInt8) (n : Nat), u ≠ [] → n = (t ++ u).length → contOk lo hi (t ++ u) → ch p n lo hi t = repB
  | [], u, p, lo, hi, n, hu, hn, _ => by
    have h0 : 0 < u.length := List.length_pos_iff.2 hu
    have hn' : n = u.length := by simpa using hn
    rw [ch, if_neg (by omega)]
  | d :: t, u, p, lo, hi, n, hu, hn, hc => by
    obtain ⟨h1, h2, h3⟩ := hc
    have h0 : 0 < u.length := List.length_pos_iff.2 hu
    have hn' : n = (t ++ u).length + 1 := by simpa using hn
    have hl : 0 < (t ++ u).length := by simp; omega
    rw [ch, if_neg (by omega), if_neg (by omega), if_neg (by omega)]
    exact ch_cut t u (p ++ [d]) 128 191 (n - 1) hu (by omega) h3

theorem ch0_char {l : List UInt8} (h : CharB l) (rest : List UInt8) : ch0 (l ++ rest) = l ++ ch0 rest := by
  obtain ⟨c, t, rfl, hne, hn, hc⟩ := h.ex
  have h0 : 0 < t.length := List.length_pos_iff.2 hne
  show ch [] 0 0 0 (c :: (t ++ rest)) = _
  rw [ch, if_pos rfl, if_neg (by omega), hn, ch_cont t [c] _ _ rest hne hc]
  simp
/-- Cut short. -/
theorem ch0_cut {l : List UInt8} (h : CharB l) (p u : List UInt8) (hl : l = p ++ u) (hp : p ≠ []) (hu : u ≠ []) : ch0 p = repB := by
  obtain ⟨c, t, rfl, hne, hn, hc⟩ := h.ex
  cases p with
  | nil => exact absurd rfl hp
  | cons a p =>
    simp at hl
    obtain ⟨rfl, rfl⟩ := hl
    have h0 : 0 < (p ++ u).length := List.length_pos_iff.2 hne
    show ch [] 0 0 0 (c :: p) = _
    rw [ch, if_pos rfl, if_neg (by omega)]
    exact ch_cut p u [c] _ _ _ hu hn hc
theorem up_char {l : List UInt8} (h : CharB l) : Up l := by
  obtain ⟨c, t, rfl, hne, hn, hc⟩ := h.ex
  have h0 : 0 < t.length := List.length_pos_iff.2 hne
  have hb := behind_up (c := c) (by omega)
  have key : ∀ (t : List UInt8) (lo hi : UInt8), 128 ≤ lo.toNat → contOk lo hi t → Up t := by
    intro t
    induction t with
    | nil => intro _ _ _ _ d hd; cases hd
    | cons e t ih =>
      intro lo hi hlo hk d hd
      obtain ⟨k1, k2, k3⟩ := hk
      rcases List.mem_cons.1 hd with rfl | hd
      · omega
      · exact ih 128 191 (by decide) k3 d hd
  intro d hd
  rcases List.mem_cons.1 hd with rfl | hd
  · omega
  · exact key t _ _ hb.2 hc d hd
theorem char_ne {l : List UInt8} (h : CharB l) : l ≠ [] := by
  obtain ⟨c, t, rfl, _⟩ := h.ex
  simp
/-- A character's bytes begin with the mark's only if they are the mark. -/
theorem char_mark {l : List UInt8} (h : CharB l) (rest : List UInt8) (hm : (l ++ rest).take 3 = markB) : l = markB := by
  obtain ⟨c, t, rfl, hne, hn, hc⟩ := h.ex
  have hc0 : c = 239 := by
    have := congrArg (fun l => l[0]?) hm
    simpa [markB] using this
  subst hc0
  have h2 : (behindS 239).1 = 2 := by decide
  rw [h2] at hn
  match t, hn with
  | [a, b], _ => simpa [markB] using hm

/-- The bytes of a rune. -/
def encB (r : Int) : List UInt8 := (Utf8.encode r).data.toList

theorem beh_of (n : Nat) (h : n < 256) : (UInt8.ofNat n).toNat = n := by
  rw [UInt8.toNat_ofNat']
  omega
theorem valid_of {r : Int} (h0 : 0 ≤ r) (h1 : r ≤ 1114111) (h2 : ¬ (55296 ≤ r ∧ r ≤ 57343)) : Utf8.valid r = true := by
  unfold Utf8.valid
  simp
  omega
theorem encB_one {r : Int} (h0 : 0 ≤ r) (h1 : r < 128) : encB r = [UInt8.ofNat r.toNat] := by
  unfold encB Utf8.encode
  simp only [valid_of h0 (by omega) (by omega), if_true]
  rw [if_pos (by omega)]
theorem encB_two {r : Int} (h0 : 128 ≤ r) (h1 : r < 2048) : encB r = [UInt8.ofNat (192 + r.toNat / 64), UInt8.ofNat (128 + r.toNat % 64)] := by
  unfold encB Utf8.encode
  simp only [valid_of (show 0 ≤ r by omega) (by omega) (by omega), if_true]
  rw [if_neg (by omega), if_pos (by omega)]
theorem encB_three {r : Int} (h0 : 2048 ≤ r) (h1 : r < 65536) (h2 : ¬ (55296 ≤ r ∧ r ≤ 57343)) : encB r = [UInt8.ofNat (224 + r.toNat / 4096), UInt8.ofNat (128 + r.toNat / 64 % 64), UInt8.ofNat (128 + r.toNat % 64)] := by
  unfold encB Utf8.encode
  simp only [valid_of (show 0 ≤ r by omega) (by omega) h2, if_true]
  rw [if_neg (by omega), if_neg (by omega), if_pos (by omega)]
theorem encB_four {r : Int} (h0 : 65536 ≤ r) (h1 : r ≤ 1114111) : encB r = [UInt8.ofNat (240 + r.toNat / 262144), UInt8.ofNat (128 + r.toNat / 4096 % 64), UInt8.ofNat (128 + r.toNat / 64 % 64), UInt8.ofNat (128 + r.toNat % 64)] := by
  unfold encB Utf8.encode
  simp only [valid_of (show 0 ≤ r by omega) h1 (by omega), if_true]
  rw [if_neg (by omega), if_neg (by omega), if_neg (by omega)]

theorem behind_two {c : UInt8} (h0 : 194 ≤ c.toNat) (h1 : c.toNat ≤ 223) : behindS c = (1, 128, 191) := by
  unfold behindS; rw [if_pos ⟨h0, h1⟩]
theorem behind_three {c : UInt8} (h0 : 224 ≤ c.toNat) (h1 : c.toNat ≤ 239) : behindS c = (2, if c.toNat = 224 then 160 else 128, if c.toNat = 237 then 159 else 191) := by
  unfold behindS
  rw [if_neg (by omega)]
  by_cases c2 : c.toNat = 224
  · simp [c2]
  · rw [if_neg c2, if_neg c2]
    by_cases c3 : c.toNat = 237
    · simp [c3]
    · rw [if_neg c3, if_neg c3, if_pos (by omega)]
theorem behind_four {c : UInt8} (h0 : 240 ≤ c.toNat) (h1 : c.toNat ≤ 244) : behindS c = (3, if c.toNat = 240 then 144 else 128, if c.toNat = 244 then 143 else 191) := by
  unfold behindS
  rw [if_neg (by omega), if_neg (by omega), if_neg (by omega), if_neg (by omega)]
  by_cases c2 : c.toNat = 240
  · simp [c2]
  · rw [if_neg c2, if_neg c2]
    by_cases c3 : c.toNat = 244
    · simp [c3]
    · rw [if_neg c3, if_neg c3, if_pos (by omega)]

theorem encB_char {r : Int} (h0 : 128 ≤ r) (h1 : r ≤ 1114111) (h2 : ¬ (55296 ≤ r ∧ r ≤ 57343)) : CharB (encB r) := by
  obtain ⟨n, rfl⟩ : ∃ n : Nat, r = n := ⟨r.toNat, by omega⟩
  by_cases c1 : (n : Int) < 2048
  · rw [encB_two h0 c1]
    simp only [Int.toNat_natCast]
    have e0 := beh_of (192 + n / 64) (by omega)
    have e1 := beh_of (128 + n % 64) (by omega)
    refine ⟨⟨_, _, rfl, by simp, ?_⟩⟩
    rw [behind_two (by omega) (by omega)]
    refine ⟨rfl, ?_, ?_, trivial⟩ <;> (rw [e1]; simp; try omega)
  · by_cases c2 : (n : Int) < 65536
    · rw [encB_three (by omega) c2 h2]
      simp only [Int.toNat_natCast]
      have e0 := beh_of (224 + n / 4096) (by omega)
      have e1 := beh_of (128 + n / 64 % 64) (by omega)
      have e2 := beh_of (128 + n % 64) (by omega)
      refine ⟨⟨_, _, rfl, by simp, ?_⟩⟩
      rw [behind_three (by omega) (by omega)]
      refine ⟨rfl, ?_, ?_, ?_, ?_, trivial⟩
      · dsimp only; rw [e0, e1]; split <;> simp <;> omega
      · dsimp only; rw [e0, e1]; split <;> simp <;> omega
      · rw [e2]; simp
      · rw [e2]; simp; omega
    · rw [encB_four (by omega) h1]
      simp only [Int.toNat_natCast]
      have e0 := beh_of (240 + n / 262144) (by omega)
      have e1 := beh_of (128 + n / 4096 % 64) (by omega)
      have e2 := beh_of (128 + n / 64 % 64) (by omega)
      have e3 := beh_of (128 + n % 64) (by omega)
      refine ⟨⟨_, _, rfl, by simp, ?_⟩⟩
      rw [behind_four (by omega) (by omega)]
      refine ⟨rfl, ?_, ?_, ?_, ?_, ?_, ?_, trivial⟩
      · dsimp only; rw [e0, e1]; split <;> simp <;> omega
      · dsimp only; rw [e0, e1]; split <;> simp <;> omega
      · rw [e2]; simp
      · rw [e2]; simp; omega
      · rw [e3]; simp
      · rw [e3]; simp; omega
theorem encB_mark {r : Int} (h0 : 128 ≤ r) (h1 : r ≤ 1114111) (h2 : ¬ (55296 ≤ r ∧ r ≤ 57343)) (h3 : r ≠ 65279) : encB r ≠ markB := by
  obtain ⟨n, rfl⟩ : ∃ n : Nat, r = n := ⟨r.toNat, by omega⟩
  intro he
  by_cases c1 : (n : Int) < 2048
  · rw [encB_two h0 c1] at he; simp [markB] at he
  · by_cases c2 : (n : Int) < 65536
    · rw [encB_three (by omega) c2 h2] at he
      simp only [Int.toNat_natCast, markB] at he
      have e0 := beh_of (224 + n / 4096) (by omega)
      have e1 := beh_of (128 + n / 64 % 64) (by omega)
      have e2 := beh_of (128 + n % 64) (by omega)
      injection he with q0 he
      injection he with q1 he
      injection he with q2 he
      have q0' := congrArg UInt8.toNat q0
      have q1' := congrArg UInt8.toNat q1
      have q2' := congrArg UInt8.toNat q2
      rw [e0] at q0'
      rw [e1] at q1'
      rw [e2] at q2'
      simp at q0' q1' q2'
      omega
    · rw [encB_four (by omega) h1] at he; simp [markB] at he

end Go.Proofs.Ytnfallgpnoofiaa
