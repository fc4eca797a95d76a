/-
  What the document's Clean answers, and what the reader of tokens makes of a comment.
-/
import Derived.Test.YtncfgahnjakeiabDoorLet
import Derived.Test.YtncfgahnjakeiabDoorNulls
namespace Go.Proofs.YtncfgahnjakeiabDoor
open Go.RowKit

theorem cleanL_snoc (l : List UInt8) (c : UInt8) : cleanL (l ++ [c]) = cleanL l ++ cleanB c := by simp [cleanL]
theorem cleanL_mem : ∀ {l : List UInt8}, ∀ c ∈ cleanL l, c ≠ 0 := by
  intro l c hc
  obtain ⟨d, _, hd⟩ := List.mem_flatMap.1 hc
  unfold cleanB at hd
  split at hd
  · simp only [List.mem_cons, List.not_mem_nil, or_false] at hd
    rcases hd with rfl | rfl | rfl <;> decide
  · rename_i h
    simp only [List.mem_cons, List.not_mem_nil, or_false] at hd
    rw [hd]
    exact h
theorem cleanL_same : ∀ {l : List UInt8}, (∀ c ∈ l, c ≠ 0) → cleanL l = l
  | [], _ => rfl
  | c :: r, h => by
    have e : cleanL (c :: r) = cleanB c ++ cleanL r := rfl
    rw [e, cleanL_same (fun d hd => h d (List.mem_cons_of_mem _ hd))]
    unfold cleanB
    rw [if_neg (h c List.mem_cons_self)]
    rfl
theorem cleanL_nil {l : List UInt8} (h : cleanL l = []) : l = [] := by
  cases l with
  | nil => rfl
  | cons c r =>
    have e : cleanL (c :: r) = cleanB c ++ cleanL r := rfl
    rw [e] at h
    unfold cleanB at h
    split at h <;> cases h

set_option maxRecDepth 20000 in
set_option maxHeartbeats 1000000 in
theorem rclean_any (s : ByteArray) (hs : s.size < 100000) (w : World) :
    Calls Tryd.prog 11 #[.string s] w fun e w' => e = .returned (sv (cleanL s.data.toList)) ∧ w' = w := by
  have hl0 : s.data.toList.length = s.size := rfl
  have HF : Hid (cleanL (s.data.toList.take s.size) = cleanL s.data.toList) := by show cleanL _ = _; rw [← hl0, List.take_length]
  go_enter Tryd.func11, Tryd.ntmps11
  go_wp2_with fail
  go_loopg [3, 4] s.size (fun gm tv iv wr => ∃ k : Nat, gm = s.size - k ∧ k ≤ s.size ∧ iv = .int .i64 k ∧ tv = sv (cleanL (s.data.toList.take k)) ∧ wr = w)
  case atStart => exact ⟨0, rfl, Nat.zero_le _, rfl, rfl, rfl⟩
  case round =>
    obtain ⟨k, hgk, hk, rfl, rfl, rfl⟩ := hrel
    have hcl := cleanL_length (s.data.toList.take k)
    rw [List.length_take] at hcl
    by_cases hlt : k < s.size
    · have hone := ext_one hlt
      have hsn : cleanL (s.data.toList.take (k + 1)) = cleanL (s.data.toList.take k) ++ cleanB s[k] := by rw [take_snoc hlt, cleanL_snoc]
      by_cases hc : s[k] = 0
      · have ec : (((s[k]).toNat : Int) == 0) = true := by rw [hc]; rfl
        have HS : (⟨(cleanL (s.data.toList.take k)).toArray⟩ : ByteArray) ++ ⟨#[239, 191, 189]⟩ = ⟨(cleanL (s.data.toList.take (k + 1))).toArray⟩ := by
          rw [mk_app, hsn, hc]
          rfl
        clear hsn hone hc HF
        go_wp2
        go_roundg (s.size - (k + 1))
        case rel => exact ⟨k + 1, rfl, by omega, by go_num, rfl, rfl⟩
        case measure => omega
      · have ec : (((s[k]).toNat : Int) == 0) = false := by
          simp
          intro e
          exact hc (UInt8.toNat_inj.1 (by show (s[k]).toNat = 0; omega))
        have HS : (⟨(cleanL (s.data.toList.take k)).toArray⟩ : ByteArray) ++ s.extract k (k + 1) = ⟨(cleanL (s.data.toList.take (k + 1))).toArray⟩ := by
          rw [mk_app, hone, hsn]
          unfold cleanB
          rw [if_neg hc]
        have hes : (s.extract k (k + 1)).size = 1 := congrArg List.length hone
        clear hsn hone hc HF
        go_wp2
        go_roundg (s.size - (k + 1))
        case rel => exact ⟨k + 1, rfl, by omega, by go_num, rfl, rfl⟩
        case measure => omega
    · have hkk : k = s.size := by omega
      subst hkk
      rw [HF.out]
      go_wp2
      go_ret
      exact ⟨rfl, rfl⟩

theorem upTo_ends : ∀ (t y : List UInt8), (∀ c ∈ t, c ≠ 45) → upTo endsC (t ++ 45 :: 45 :: 62 :: y) = t.length
  | [], y, _ => by rw [List.nil_append, upTo_cons, if_pos (show endsC (45 :: 45 :: 62 :: y) = true from rfl)]; rfl
  | c :: r, y, h => by
    have hc := h c List.mem_cons_self
    have hno : endsC (c :: (r ++ 45 :: 45 :: 62 :: y)) = false := by
      have h1 : ((45 : UInt8) == c) = false := by simpa using Ne.symm hc
      show ((45 == c && _) || (45 == c && _)) = false
      rw [h1]
      rfl
    rw [List.cons_append, upTo_cons, if_neg (by rw [hno]; decide), upTo_ends r y (fun d hd => h d (List.mem_cons_of_mem _ hd)), List.length_cons]

/-- A whole comment, and a text behind it. -/
theorem tok_cmt (t m : List UInt8) (ht : ∀ c ∈ t, c ≠ 45 ∧ c ≠ 62 ∧ c ≠ 0) (hm : ∀ c ∈ m, c ≠ 0) : ∃ p, (tokL (60 :: 33 :: 45 :: 45 :: (t ++ 45 :: 45 :: 62 :: esc false m))).toks = ⟨4, [], [], false, t, 0⟩ :: (if m = [] then [] else [⟨3, [], [], false, m, p⟩]) ∧ (tokL (60 :: 33 :: 45 :: 45 :: (t ++ 45 :: 45 :: 62 :: esc false m))).flts = [] := by
  have e : (TS.new (60 :: 33 :: 45 :: 45 :: (t ++ 45 :: 45 :: 62 :: esc false m))).markup = (TS.mk (t ++ 45 :: 45 :: 62 :: esc false m) 4 [] [] [] 0).comment 0 := rfl
  have hu := upTo_ends t (esc false m) (fun c hc => (ht c hc).1)
  have p1 : pre [62] (t ++ 45 :: 45 :: 62 :: esc false m) = false := by
    cases t with
    | nil => rfl
    | cons c r =>
      have hc := (ht c List.mem_cons_self).2.1
      have h1 : ((62 : UInt8) == c) = false := by simpa using Ne.symm hc
      show (62 == c && _) = false
      rw [h1]
      rfl
  have p2 : pre [45, 62] (t ++ 45 :: 45 :: 62 :: esc false m) = false := by
    cases t with
    | nil => rfl
    | cons c r =>
      have hc := (ht c List.mem_cons_self).1
      have h1 : ((45 : UInt8) == c) = false := by simpa using Ne.symm hc
      show (45 == c && _) = false
      rw [h1]
      rfl
  have ec : (TS.mk (t ++ 45 :: 45 :: 62 :: esc false m) 4 [] [] [] 0).comment 0 = TS.mk (esc false m) (4 + t.length + 3) [⟨4, [], [], false, t, 0⟩] [] [] 0 := by
    unfold TS.comment
    rw [if_neg (by rw [p1]; decide), if_neg (by rw [p2]; decide)]
    have e1 : (TS.mk (t ++ 45 :: 45 :: 62 :: esc false m) 4 [] [] [] 0).cutTo endsC = TS.mk (45 :: 45 :: 62 :: esc false m) (4 + t.length) [] [] [] 0 := by
      show TS.mk (List.drop (upTo endsC _) _) (4 + upTo endsC _) _ _ _ _ = _
      rw [hu, List.drop_left]
    have e2 : (TS.mk (t ++ 45 :: 45 :: 62 :: esc false m) 4 [] [] [] 0).front endsC = t := by
      show List.take (upTo endsC _) _ = _
      rw [hu, List.take_left]
    rw [e1, e2]
    have e3 : (TS.mk (45 :: 45 :: 62 :: esc false m) (4 + t.length) [] [] [] 0).cmtEnd 0 = TS.mk (esc false m) (4 + t.length + 3) [] [] [] 0 := rfl
    rw [e3]
    unfold TS.cmt
    rw [cleanL_same (fun c hc => (ht c hc).2.2)]
    rfl
  refine ⟨4 + t.length + 3, ?_⟩
  unfold tokL
  rw [run_lt rfl, e, ec, run_esc [] m _ hm (by rw [List.append_nil]), run_nil (by rw [(addT_rest _ _ _).1]; show List.drop _ (esc false m) = []; exact List.drop_length)]
  by_cases hm0 : m = []
  · subst hm0
    rw [if_pos rfl, addT_nil]
    exact ⟨rfl, rfl⟩
  · rw [if_neg hm0, addT_endT rfl hm0]
    exact ⟨rfl, rfl⟩
/-- What may stand in a comment that comes back. -/
def cmB (c : UInt8) : Bool := decide (c ≠ 45) && (decide (c ≠ 62) && decide (c ≠ 0))
def cmL (l : List UInt8) : List UInt8 := l.filter cmB
theorem cm_mem {l : List UInt8} : ∀ c ∈ cmL l, c ≠ 45 ∧ c ≠ 62 ∧ c ≠ 0 := fun c hc => by simpa [cmB] using (List.mem_filter.1 hc).2
theorem cm_snoc {s : ByteArray} {k : Nat} (h : k < s.size) : cmL (s.data.toList.take (k + 1)) = if cmB s[k] = true then cmL (s.data.toList.take k) ++ [s[k]] else cmL (s.data.toList.take k) := by
  rw [take_snoc h]
  unfold cmL
  rw [List.filter_append]
  by_cases hc : cmB s[k] = true
  · rw [if_pos hc]
    simp [hc]
  · rw [if_neg hc]
    simp [hc]
end Go.Proofs.YtncfgahnjakeiabDoor
