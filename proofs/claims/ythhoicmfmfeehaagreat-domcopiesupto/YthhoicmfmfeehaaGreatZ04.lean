/-
  A row of nodes as a new slice of integers (chain.row).
-/
import Derived.Test.YthhoicmfmfeehaaGreatZ02
import Derived.Test.YthhoicmfmfeehaaGreatZ03
namespace Go.Proofs.YthhoicmfmfeehaaGreat
open Go.RowKit
set_option linter.unusedVariables false

abbrev iv (i : Nat) : Value := .int .i64 (i : Int)
abbrev ivs (l : List Nat) : List Value := l.map fun i => iv i
theorem infoInt : (Tryz.prog.info? 3).map (fun i => (i.zero, i.size, i.bytes)) = some (some (.int .i64 0), 1, 8) := by kernel_rfl
/-- An integer is appended to a row of one's own. -/
theorem appI {K : Nat → Prop} {w : World} {ao : Option Addr} {n cap : Nat} {xs : List Value} (h : OwnZ K w 3 1 ao n cap xs) (hKl : ∀ k, K k → k < w.heap.size) (hn : n ≤ 1000000000) (x : Int) :
    ∃ ao' cap' w', (Builtin.append_ #[33, 33] 33 #[.slice ao n cap, .slice (some ⟨w.heap.size, 0, none⟩) 1 1]).run Tryz.prog (w.alloc (.cells #[.int .i64 x] 3)) = .ok (.slice ao' (n + 1) cap') w' ∧ OwnZ K w' 3 1 ao' (n + 1) cap' (xs ++ [.int .i64 x]) ∧ Kept K w w' := by
  obtain ⟨i, hi, hip⟩ := Option.map_eq_some_iff.1 infoInt
  have hz : i.zero = some (.int .i64 0) := congrArg (·.1) hip
  have hsz : i.size = 1 := congrArg (·.2.1) hip
  have hby : i.bytes = 8 := congrArg (·.2.2) hip
  obtain ⟨W, hW⟩ : ∃ W, w.alloc (.cells #[.int .i64 x] 3) = W := ⟨_, rfl⟩
  rw [hW]
  have hsrc : Src Tryz.prog 1 33 (.slice (some ⟨w.heap.size, 0, none⟩) 1 1) 1 [.int .i64 x] W := by
    rw [← hW]
    exact src_newZ w w.heap.size [.int .i64 x] _ Tryz.underlying33 (by intro u hu; rw [List.mem_singleton.1 hu]; rfl) rfl rfl
  have keep : ∀ g, g < w.heap.size → W.heap[g]? = w.heap[g]? := fun g hg => by rw [← hW]; exact Below.heap_alloc _ _ _ hg
  have hsW : w.heap.size ≤ W.heap.size := by rw [← hW]; simp
  obtain ⟨ao', cap', w', hr, ho, hk⟩ := run_appZ (P := Tryz.prog) W 33 33 33 3 i _ Tryz.underlying33 hi hz 1 hsz rfl (by omega)
    (h.to (w' := W) (fun g hg => (h.out hg).1) (fun g hg => keep g (h.out hg).2)) _ _ hsrc (fun g hg => Nat.lt_of_lt_of_le (hKl g hg) hsW) hn
  refine ⟨ao', cap', w', hr, ho, Kept.trans ?_ hk⟩
  rw [← hW]
  exact (Kept.refl _ w).alloc hKl _
theorem WF.len_le {n : Nat} {L : Nat → Lk} {R : Nat → List Nat} (h : WF n L R) {u : Nat} (hu : u < n) : (R u).length ≤ n := by
  have : ∀ (n : Nat) (l : List Nat), l.Nodup → (∀ i ∈ l, i < n) → l.length ≤ n := by
    intro n
    induction n with
    | zero =>
      intro l _ hl
      cases l with
      | nil => exact Nat.le_refl _
      | cons x r => exact absurd (hl x (List.mem_cons_self ..)) (Nat.not_lt_zero _)
    | succ n ih =>
      intro l hn hl
      have h1 := ih (l.erase n) (hn.erase n) (fun i hi => by
        have a := hl i (List.mem_of_mem_erase hi)
        have b : i ≠ n := fun e => by
          subst e
          exact (List.Nodup.not_mem_erase hn) hi
        omega)
      have h2 : l.length ≤ (l.erase n).length + 1 := by
        by_cases hm : n ∈ l
        · rw [List.length_erase_of_mem hm]; omega
        · rw [List.erase_of_not_mem hm]; omega
      omega
  exact this n (R u) (h.nodup u hu) (h.lt u hu)

set_option maxRecDepth 20000 in
set_option maxHeartbeats 2000000 in
theorem rowP (K : Nat → Prop) (p g cap up : Nat) (S : Dm) (R : Nat → List Nat) (w : World) (h : DY K w p S (some ⟨g, 0, none⟩) cap) (hW : WF S.n S.pl R) (hu : up < S.n) (hn : S.n ≤ 1000000) :
    Calls Tryz.prog 59 #[chP p, .int .i64 (up : Int)] w fun e w' => ∃ ao c, e = .returned (.slice ao (R up).length c) ∧ OwnZ (fun k => k < w.heap.size) w' 3 1 ao (R up).length c (ivs (R up)) ∧ Kept (fun k => k < w.heap.size) w w' := by
  obtain ⟨n, hne⟩ : ∃ n, S.n = n := ⟨_, rfl⟩
  have hlen := hW.len_le hu
  have hlt := hW.lt up hu
  have hf := hW.first up hu
  have hsp : ∀ a i b, R up = a ++ i :: b → (S.pl i).next = hdD b (-1) := fun a i b e => (hW.split hu e).2
  rw [hne] at hu hn hlen hlt
  have r1 := fun (j : Nat) (hj : j < n) (X : World) (hX : X.cell? ⟨p, 1, none⟩ = some (.slice (some ⟨g, 0, none⟩) n cap)) => placeOf_any p g n cap j X hX hj (by omega)
  have ru := r1 up hu
  have c1 : w.cell? ⟨p, 1, none⟩ = some (.slice (some ⟨g, 0, none⟩) n cap) := by have := h.c1; rw [hne] at this; exact this
  obtain ⟨-, -, -, c3, -⟩ := h.pcell (i := up) (by rw [hne]; exact hu)
  rw [hf] at c3
  have HY : Hid (DY K w p S (some ⟨g, 0, none⟩) cap) := h
  have HNE : Hid (S.n = n) := hne
  have HS : Hid (∀ a i b, R up = a ++ i :: b → (S.pl i).next = hdD b (-1)) := hsp
  have HLT : Hid (∀ i ∈ R up, i < n) := hlt
  have HL : Hid ((R up).length ≤ n) := hlen
  obtain ⟨Q, hQ⟩ : ∃ Q, R up = Q := ⟨_, rfl⟩
  rw [hQ] at c3 HS HLT HL ⊢
  clear h hW hne hlen hlt hf hsp hQ
  go_enter Tryz.func59, Tryz.ntmps59
  go_upto_region 3 with (go_at_call 93; refine (ru _ ?_).mono ?_; exact c1; rintro e w2 ⟨rfl, hw2⟩; replace hw2 := hw2.symm; subst hw2)
  go_loopg [5, 6] Q.length (fun gh v5 v6 wr => ∃ a b ao c, gh = b.length ∧ Q = a ++ b ∧ v5 = .slice ao a.length c ∧ v6 = .int .i64 (hdD b (-1)) ∧ OwnZ (fun k => k < w.heap.size) wr 3 1 ao a.length c (ivs a) ∧ Kept (fun k => k < w.heap.size) w wr)
  case atStart => exact ⟨[], Q, none, 0, rfl, rfl, rfl, rfl, OwnZ.nil _ _ _ _, Kept.refl _ _⟩
  case round =>
    obtain ⟨a, b, ao, c, hgh, hab, rfl, rfl, hO, hK⟩ := hrel
    cases b with
    | nil =>
      have e : a = Q := by rw [hab, List.append_nil]
      subst e
      have HO : Hid (OwnZ (fun k => k < w.heap.size) wr 3 1 ao a.length c (ivs a)) := hO
      have HK : Hid (Kept (fun k => k < w.heap.size) w wr) := hK
      clear hO hK hab hgh HS HLT HL
      go_wp2
      go_ret
      exact ⟨ao, c, rfl, HO.out, HK.out⟩
    | cons i b =>
      have hin : i < n := HLT.out i (by rw [hab]; simp)
      have hal : a.length + 1 ≤ n := by
        have := HL.out
        rw [hab] at this
        simp at this
        omega
      obtain ⟨la, hla⟩ : ∃ z, a.length = z := ⟨_, rfl⟩
      rw [hla] at hal hO ⊢
      obtain ⟨ao', c', w', hr, hO', hK'⟩ := appI hO (fun k hk => Nat.lt_of_lt_of_le hk hK.size) (by omega) (i : Int)
      have kk := hK.trans hK'
      have hY' := HY.out.kept (hK.trans hK')
      have hnx := HS.out a i b hab
      obtain ⟨-, -, d2, -, -⟩ := hY'.pcell (i := i) (by rw [HNE.out]; exact hin)
      rw [hnx] at d2
      have d1 : w'.cell? ⟨p, 1, none⟩ = some (.slice (some ⟨g, 0, none⟩) n cap) := by have := hY'.c1; rw [HNE.out] at this; exact this
      have HO : Hid (OwnZ (fun k => k < w.heap.size) w' 3 1 ao' (la + 1) c' (ivs a ++ [.int .i64 (i : Int)])) := hO'
      have HK : Hid (Kept (fun k => k < w.heap.size) w w') := kk
      have HAB : Hid (Q = a ++ i :: b) := hab
      have HLA : Hid (a.length = la) := hla
      have hi0 : ((i : Int) == -1) = false := by simp
      have ri := r1 i hin
      rw [show hdD (i :: b) (-1) = (i : Int) from rfl]
      clear hO hO' hK hK' hY' hnx kk hab hla
      go_wp2_with (first | (at_builtin; refine wpList_appR (w' := w') rfl (.tmp 21) (.tmp 23) 33 33 rfl _ _ (.slice ao' (la + 1) c') rfl rfl hr ?_) | (go_at_call 93; refine (ri _ ?_).mono ?_; exact d1; rintro e w2 ⟨rfl, hw2⟩; replace hw2 := hw2.symm; subst hw2))
      go_roundg b.length
      case rel =>
        refine ⟨a ++ [i], b, ao', c', rfl, by rw [HAB.out]; simp, by rw [List.length_append, HLA.out]; rfl, rfl, ?_, HK.out⟩
        rw [List.length_append, HLA.out, ivs, List.map_append]
        exact HO.out
      case measure => rw [hgh]; simp
set_option maxRecDepth 20000 in
set_option maxHeartbeats 2000000 in
theorem rowG (K : Nat → Prop) (p g cap up : Nat) (S : Dm) (R : Nat → List Nat) (w : World) (h : DY K w p S (some ⟨g, 0, none⟩) cap) (hW : WF S.n S.gf R) (hu : up < S.n) (hn : S.n ≤ 1000000) :
    Calls Tryz.prog 59 #[chG p, .int .i64 (up : Int)] w fun e w' => ∃ ao c, e = .returned (.slice ao (R up).length c) ∧ OwnZ (fun k => k < w.heap.size) w' 3 1 ao (R up).length c (ivs (R up)) ∧ Kept (fun k => k < w.heap.size) w w' := by
  obtain ⟨n, hne⟩ : ∃ n, S.n = n := ⟨_, rfl⟩
  have hlen := hW.len_le hu
  have hlt := hW.lt up hu
  have hf := hW.first up hu
  have hsp : ∀ a i b, R up = a ++ i :: b → (S.gf i).next = hdD b (-1) := fun a i b e => (hW.split hu e).2
  rw [hne] at hu hn hlen hlt
  have r1 := fun (j : Nat) (hj : j < n) (X : World) (hX : X.cell? ⟨p, 1, none⟩ = some (.slice (some ⟨g, 0, none⟩) n cap)) => giftOf_any p g n cap j X hX hj (by omega)
  have ru := r1 up hu
  have c1 : w.cell? ⟨p, 1, none⟩ = some (.slice (some ⟨g, 0, none⟩) n cap) := by have := h.c1; rw [hne] at this; exact this
  obtain ⟨-, -, -, c3, -⟩ := h.gcell (i := up) (by rw [hne]; exact hu)
  rw [hf] at c3
  have HY : Hid (DY K w p S (some ⟨g, 0, none⟩) cap) := h
  have HNE : Hid (S.n = n) := hne
  have HS : Hid (∀ a i b, R up = a ++ i :: b → (S.gf i).next = hdD b (-1)) := hsp
  have HLT : Hid (∀ i ∈ R up, i < n) := hlt
  have HL : Hid ((R up).length ≤ n) := hlen
  obtain ⟨Q, hQ⟩ : ∃ Q, R up = Q := ⟨_, rfl⟩
  rw [hQ] at c3 HS HLT HL ⊢
  clear h hW hne hlen hlt hf hsp hQ
  go_enter Tryz.func59, Tryz.ntmps59
  go_upto_region 3 with (go_at_call 104; refine (ru _ ?_).mono ?_; exact c1; rintro e w2 ⟨rfl, hw2⟩; replace hw2 := hw2.symm; subst hw2)
  go_loopg [5, 6] Q.length (fun gh v5 v6 wr => ∃ a b ao c, gh = b.length ∧ Q = a ++ b ∧ v5 = .slice ao a.length c ∧ v6 = .int .i64 (hdD b (-1)) ∧ OwnZ (fun k => k < w.heap.size) wr 3 1 ao a.length c (ivs a) ∧ Kept (fun k => k < w.heap.size) w wr)
  case atStart => exact ⟨[], Q, none, 0, rfl, rfl, rfl, rfl, OwnZ.nil _ _ _ _, Kept.refl _ _⟩
  case round =>
    obtain ⟨a, b, ao, c, hgh, hab, rfl, rfl, hO, hK⟩ := hrel
    cases b with
    | nil =>
      have e : a = Q := by rw [hab, List.append_nil]
      subst e
      have HO : Hid (OwnZ (fun k => k < w.heap.size) wr 3 1 ao a.length c (ivs a)) := hO
      have HK : Hid (Kept (fun k => k < w.heap.size) w wr) := hK
      clear hO hK hab hgh HS HLT HL
      go_wp2
      go_ret
      exact ⟨ao, c, rfl, HO.out, HK.out⟩
    | cons i b =>
      have hin : i < n := HLT.out i (by rw [hab]; simp)
      have hal : a.length + 1 ≤ n := by
        have := HL.out
        rw [hab] at this
        simp at this
        omega
      obtain ⟨la, hla⟩ : ∃ z, a.length = z := ⟨_, rfl⟩
      rw [hla] at hal hO ⊢
      obtain ⟨ao', c', w', hr, hO', hK'⟩ := appI hO (fun k hk => Nat.lt_of_lt_of_le hk hK.size) (by omega) (i : Int)
      have kk := hK.trans hK'
      have hY' := HY.out.kept (hK.trans hK')
      have hnx := HS.out a i b hab
      obtain ⟨-, -, d2, -, -⟩ := hY'.gcell (i := i) (by rw [HNE.out]; exact hin)
      rw [hnx] at d2
      have d1 : w'.cell? ⟨p, 1, none⟩ = some (.slice (some ⟨g, 0, none⟩) n cap) := by have := hY'.c1; rw [HNE.out] at this; exact this
      have HO : Hid (OwnZ (fun k => k < w.heap.size) w' 3 1 ao' (la + 1) c' (ivs a ++ [.int .i64 (i : Int)])) := hO'
      have HK : Hid (Kept (fun k => k < w.heap.size) w w') := kk
      have HAB : Hid (Q = a ++ i :: b) := hab
      have HLA : Hid (a.length = la) := hla
      have hi0 : ((i : Int) == -1) = false := by simp
      have ri := r1 i hin
      rw [show hdD (i :: b) (-1) = (i : Int) from rfl]
      clear hO hO' hK hK' hY' hnx kk hab hla
      go_wp2_with (first | (at_builtin; refine wpList_appR (w' := w') rfl (.tmp 21) (.tmp 23) 33 33 rfl _ _ (.slice ao' (la + 1) c') rfl rfl hr ?_) | (go_at_call 104; refine (ri _ ?_).mono ?_; exact d1; rintro e w2 ⟨rfl, hw2⟩; replace hw2 := hw2.symm; subst hw2))
      go_roundg b.length
      case rel =>
        refine ⟨a ++ [i], b, ao', c', rfl, by rw [HAB.out]; simp, by rw [List.length_append, HLA.out]; rfl, rfl, ?_, HK.out⟩
        rw [List.length_append, HLA.out, ivs, List.map_append]
        exact HO.out
      case measure => rw [hgh]; simp
end Go.Proofs.YthhoicmfmfeehaaGreat
