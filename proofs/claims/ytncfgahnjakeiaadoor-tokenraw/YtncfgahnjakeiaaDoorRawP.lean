/-
  What the reader of tokens makes of an element that has text alone.
-/
import Derived.Test.YtncfgahnjakeiaaDoorPts
import Derived.Test.YtncfgahnjakeiaaDoorLet
namespace Go.Proofs.YtncfgahnjakeiaaDoor

theorem any_no {name : List UInt8} {c d : UInt8} (r : List UInt8) (h : d ≠ 47) : anyG (60 :: 47 :: name) (c :: d :: r) = false := by
  have hl : lowB d ≠ 47 := by
    intro e
    unfold lowB at e
    split at e
    · rename_i hh
      have := congrArg UInt8.toNat e
      rw [UInt8.toNat_add] at this
      have h32 : (32 : UInt8).toNat = 32 := rfl
      have h47 : (47 : UInt8).toNat = 47 := rfl
      omega
    · exact h e
  have e1 : (lowL ((c :: d :: r).take (60 :: 47 :: name).length) == 60 :: 47 :: name) = false := by
    show (lowB c :: lowB d :: lowL (r.take name.length) == 60 :: 47 :: name) = false
    rw [beq_eq_false_iff_ne]
    intro e
    injection e with _ e
    injection e with e _
    exact hl e
  unfold anyG
  rw [e1, Bool.and_false, Bool.and_false]
theorem upTo_end {name z : List UInt8} (hz : endOfP name (60 :: z) = true) : ∀ x : List UInt8, (∀ c ∈ x, c ≠ 47) → upTo (endOfP name) (x ++ 60 :: z) = x.length
  | [], _ => by rw [List.nil_append, upTo_cons, if_pos hz]; rfl
  | c :: r, h => by
    have hf : endOfP name (c :: (r ++ 60 :: z)) = false := by
      unfold endOfP
      cases r with
      | nil => rw [List.nil_append, any_no _ (by decide), Bool.false_and]
      | cons d r => rw [List.cons_append, any_no _ (h d (by simp)), Bool.false_and]
    rw [List.cons_append, upTo_cons, if_neg (by rw [hf]; decide), upTo_end hz r (fun d hd => h d (List.mem_cons_of_mem _ hd)), List.length_cons]
theorem clean_id : ∀ l : List UInt8, (∀ c ∈ l, c ≠ 0) → cleanL l = l
  | [], _ => rfl
  | c :: r, h => by
    have e : cleanL (c :: r) = cleanB c ++ cleanL r := rfl
    rw [e, clean_id r (fun d hd => h d (List.mem_cons_of_mem _ hd))]
    unfold cleanB
    rw [if_neg (h c List.mem_cons_self)]
    rfl
theorem all_id (attr : Bool) : ∀ l : List UInt8, (∀ c ∈ l, c ≠ 38) → allL attr l = l
  | [], _ => rfl
  | c :: r, h => by
    have hc := h c List.mem_cons_self
    rw [allL_none (by unfold takeL; rw [if_neg (by simpa [amp] using hc)]; rfl), all_id attr r (fun d hd => h d (List.mem_cons_of_mem _ hd))]

section
variable {x : List UInt8} (h47 : ∀ c ∈ x, c ≠ 47) (h0 : ∀ c ∈ x, c ≠ 0)
include h47 h0
theorem in_raw {name z : List UInt8} (hz : endOfP name (60 :: z) = true) (h1 : softP name = false) (h2 : rawP name = true) (hx : x ≠ []) (p : Nat) (T : List Tk) : (TS.mk (x ++ 60 :: z) p T [] [] 0).inside name = TS.mk (60 :: z) (p + x.length) T [] x p := by
  have hu := upTo_end hz x h47
  unfold TS.inside
  rw [if_neg (by rw [h1]; decide), if_pos h2]
  show TS.addT (TS.mk (List.drop (upTo _ (x ++ 60 :: z)) (x ++ 60 :: z)) (p + upTo _ (x ++ 60 :: z)) T [] [] 0) (cleanL (List.take (upTo _ (x ++ 60 :: z)) (x ++ 60 :: z))) p = _
  rw [hu, List.drop_left, List.take_left, clean_id x h0]
  unfold TS.addT
  rw [if_neg hx]
  rfl
theorem in_soft (h38 : ∀ c ∈ x, c ≠ 38) {name z : List UInt8} (hz : endOfP name (60 :: z) = true) (h1 : softP name = true) (hx : x ≠ []) (p : Nat) (T : List Tk) : (TS.mk (x ++ 60 :: z) p T [] [] 0).inside name = TS.mk (60 :: z) (p + x.length) T [] x p := by
  have hu := upTo_end hz x h47
  unfold TS.inside
  rw [if_pos h1]
  show TS.addT (TS.mk (List.drop (upTo _ (x ++ 60 :: z)) (x ++ 60 :: z)) (p + upTo _ (x ++ 60 :: z)) T [] [] 0) (allL false (cleanL (List.take (upTo _ (x ++ 60 :: z)) (x ++ 60 :: z)))) p = _
  rw [hu, List.drop_left, List.take_left, clean_id x h0, all_id false x h38]
  unfold TS.addT
  rw [if_neg hx]
  rfl
end
theorem mk_script (y : List UInt8) : (TS.new (60 :: 115 :: 99 :: 114 :: 105 :: 112 :: 116 :: 62 :: y)).markup = (TS.mk y 8 [⟨1, [115, 99, 114, 105, 112, 116], [], false, [], 0⟩] [] [] 0).inside [115, 99, 114, 105, 112, 116] := rfl
theorem mk_title (y : List UInt8) : (TS.new (60 :: 116 :: 105 :: 116 :: 108 :: 101 :: 62 :: y)).markup = (TS.mk y 7 [⟨1, [116, 105, 116, 108, 101], [], false, [], 0⟩] [] [] 0).inside [116, 105, 116, 108, 101] := rfl
theorem tok_script {r : List UInt8} (h47 : ∀ c ∈ r, c ≠ 47) (h0 : ∀ c ∈ r, c ≠ 0) : ∃ p q, (tokL (60 :: 115 :: 99 :: 114 :: 105 :: 112 :: 116 :: 62 :: ((60 :: 98 :: 62 :: r) ++ [60, 47, 115, 99, 114, 105, 112, 116, 62]))).toks = [⟨1, [115, 99, 114, 105, 112, 116], [], false, [], 0⟩, ⟨3, [], [], false, 60 :: 98 :: 62 :: r, p⟩, ⟨2, [115, 99, 114, 105, 112, 116], [], false, [], q⟩] ∧
    (tokL (60 :: 115 :: 99 :: 114 :: 105 :: 112 :: 116 :: 62 :: ((60 :: 98 :: 62 :: r) ++ [60, 47, 115, 99, 114, 105, 112, 116, 62]))).flts = [] := by
  have a47 : ∀ c ∈ 60 :: 98 :: 62 :: r, c ≠ 47 := by
    intro c hc
    simp only [List.mem_cons] at hc
    rcases hc with rfl | rfl | rfl | hc
    · decide
    · decide
    · decide
    · exact h47 c hc
  have a0 : ∀ c ∈ 60 :: 98 :: 62 :: r, c ≠ 0 := by
    intro c hc
    simp only [List.mem_cons] at hc
    rcases hc with rfl | rfl | rfl | hc
    · decide
    · decide
    · decide
    · exact h0 c hc
  have hi := in_raw a47 a0 (name := [115, 99, 114, 105, 112, 116]) (z := [47, 115, 99, 114, 105, 112, 116, 62]) rfl rfl rfl (by intro h; cases h) 8 [⟨1, [115, 99, 114, 105, 112, 116], [], false, [], 0⟩]
  unfold tokL
  rw [run_lt rfl, mk_script, hi, run_lt rfl]
  refine ⟨8, 8 + (60 :: 98 :: 62 :: r).length, ?_⟩
  rw [run_nil rfl]
  exact ⟨rfl, rfl⟩
theorem tok_title {r : List UInt8} (h47 : ∀ c ∈ r, c ≠ 47) (h0 : ∀ c ∈ r, c ≠ 0) (h38 : ∀ c ∈ r, c ≠ 38) : ∃ p q, (tokL (60 :: 116 :: 105 :: 116 :: 108 :: 101 :: 62 :: ((60 :: 98 :: 62 :: r) ++ [60, 47, 116, 105, 116, 108, 101, 62]))).toks = [⟨1, [116, 105, 116, 108, 101], [], false, [], 0⟩, ⟨3, [], [], false, 60 :: 98 :: 62 :: r, p⟩, ⟨2, [116, 105, 116, 108, 101], [], false, [], q⟩] ∧
    (tokL (60 :: 116 :: 105 :: 116 :: 108 :: 101 :: 62 :: ((60 :: 98 :: 62 :: r) ++ [60, 47, 116, 105, 116, 108, 101, 62]))).flts = [] := by
  have a47 : ∀ c ∈ 60 :: 98 :: 62 :: r, c ≠ 47 := by
    intro c hc
    simp only [List.mem_cons] at hc
    rcases hc with rfl | rfl | rfl | hc
    · decide
    · decide
    · decide
    · exact h47 c hc
  have a0 : ∀ c ∈ 60 :: 98 :: 62 :: r, c ≠ 0 := by
    intro c hc
    simp only [List.mem_cons] at hc
    rcases hc with rfl | rfl | rfl | hc
    · decide
    · decide
    · decide
    · exact h0 c hc
  have a38 : ∀ c ∈ 60 :: 98 :: 62 :: r, c ≠ 38 := by
    intro c hc
    simp only [List.mem_cons] at hc
    rcases hc with rfl | rfl | rfl | hc
    · decide
    · decide
    · decide
    · exact h38 c hc
  have hi := in_soft a47 a0 a38 (name := [116, 105, 116, 108, 101]) (z := [47, 116, 105, 116, 108, 101, 62]) rfl rfl (by intro h; cases h) 7 [⟨1, [116, 105, 116, 108, 101], [], false, [], 0⟩]
  unfold tokL
  rw [run_lt rfl, mk_title, hi, run_lt rfl]
  refine ⟨7, 7 + (60 :: 98 :: 62 :: r).length, ?_⟩
  rw [run_nil rfl]
  exact ⟨rfl, rfl⟩
/-- A text without three signs. -/
def n3 (l : List UInt8) : List UInt8 := l.filter (fun c => c ≠ 47 ∧ c ≠ 0 ∧ c ≠ 38)
theorem n3_mem {l : List UInt8} : ∀ c ∈ n3 l, c ≠ 47 ∧ c ≠ 0 ∧ c ≠ 38 := fun c hc => by simpa using (List.mem_filter.1 hc).2
theorem n3_snoc {s : ByteArray} {k : Nat} (h : k < s.size) : n3 (s.data.toList.take (k + 1)) = if s[k] ≠ 47 ∧ s[k] ≠ 0 ∧ s[k] ≠ 38 then n3 (s.data.toList.take k) ++ [s[k]] else n3 (s.data.toList.take k) := by
  rw [take_snoc h]
  unfold n3
  rw [List.filter_append]
  by_cases hc : s[k] ≠ 47 ∧ s[k] ≠ 0 ∧ s[k] ≠ 38
  · rw [if_pos hc]
    simp [hc]
  · rw [if_neg hc, List.filter_cons_of_neg (by simpa using hc)]
    simp
end Go.Proofs.YtncfgahnjakeiaaDoor
