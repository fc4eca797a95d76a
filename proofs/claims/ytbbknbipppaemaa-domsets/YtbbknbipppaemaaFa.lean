/-
  A Fragment's Kids are put in: pure; rows that grow beside a document; SameInts.
-/
import Derived.Test.YtbbknbipppaemaaCR
namespace Go.Proofs.Ytbbknbipppaemaa
open Go.RowKit
set_option linter.unusedVariables false

theorem outR_ne {n : Nat} {L : Nat → Lk} {R : Nat → List Nat} (h : WF n L R) {i u v : Nat} (hi : i < n) (hv : v < n) (hm : i ∈ R u) (hu : u < n) (hne : v ≠ u) : outR L R i v = R v := by
  have hup := h.up hu hm
  unfold outR
  rw [if_neg (by rw [hup]; omega), hup, Int.toNat_natCast, updR_ne _ _ hne]
theorem insB_at {l : List Nat} {bef : Int} {a b : List Nat} (h : At l bef a b) (hn : l.Nodup) (i : Nat) : insB l i bef = a ++ i :: b := by
  obtain ⟨h1, h2⟩ := at_of h hn
  unfold insB
  rw [← h1, ← h2]
/-- All of a Fragment's Kids, in their order, at the place. -/
theorem FrS.rows {n up i : Nat} {bef : Int} (rest : List Nat) : ∀ {L : Nat → Lk} {R : Nat → List Nat} {a b : List Nat}, FrS n up i bef L R rest → At (R up) bef a b → putsR L R up bef rest up = a ++ rest ++ b ∧ putsR L R up bef rest i = [] ∧ ∀ k, k ≠ i → k ≠ up → k < n → putsR L R up bef rest k = R k := by
  induction rest with
  | nil =>
    intro L R a b h ha
    exact ⟨by rw [List.append_nil]; exact ha.eq, h.row, fun _ _ _ _ => rfl⟩
  | cons k r ih =>
    intro L R a b h ha
    obtain ⟨hk, huk, hb⟩ := h.ok
    have hkm : k ∈ R i := by rw [h.row]; exact List.mem_cons_self ..
    have e0 : outR L R k up = R up := outR_ne h.wf hk h.hu hkm h.hi h.ne
    have e1 : Ytbbknbipppaemaa.putR L R up k bef up = a ++ k :: b := by
      unfold Ytbbknbipppaemaa.putR
      rw [updR_same, e0]
      exact insB_at ha (h.wf.nodup up h.hu) k
    have ha' : At (Ytbbknbipppaemaa.putR L R up k bef up) bef (a ++ [k]) b := by
      rw [e1]
      cases ha with
      | last e => exact .last e
      | @mid _ b' m e el => exact .mid e (by simp)
    obtain ⟨q1, q2, q3⟩ := ih h.next ha'
    refine ⟨?_, q2, fun j h1 h2 h3 => ?_⟩
    · show putsR (putL L up k bef) (Ytbbknbipppaemaa.putR L R up k bef) up bef r up = _
      rw [q1]; simp
    · show putsR (putL L up k bef) (Ytbbknbipppaemaa.putR L R up k bef) up bef r j = _
      rw [q3 j h1 h2 h3]
      unfold Ytbbknbipppaemaa.putR
      rw [updR_ne _ _ h2]
      exact outR_ne h.wf hk h3 hkm h.hi h1

theorem DY.keptBut {K : Nat → Prop} {w w' : World} {p : Nat} {S : Dm} {ga : Option Addr} {cap : Nat} (h : DY K w p S ga cap) (hk : Kept (fun k => k < w.heap.size ∧ ¬ K k) w w') : DY K w' p S ga cap := by
  obtain ⟨h1, h2, h3, xs, aa, ac, ho, hx, ha, hs⟩ := h
  have hp := lt_block h3
  refine ⟨fun k hk' => Nat.lt_of_lt_of_le (h1 k hk') hk.size, h2, by rw [hk.block p ⟨hp, h2⟩]; exact h3, xs, aa, ac, OwnZ.to ho (fun g hg => (ho.out hg).1) (fun g hg => hk.block g ⟨(ho.out hg).2, fun hh => (ho.out hg).1 (.inl hh)⟩), hx,
    fun i hi => OwnZ.to (ha i hi) (fun g hg => ((ha i hi).out hg).1) (fun g hg => hk.block g ⟨((ha i hi).out hg).2, fun hh => ((ha i hi).out hg).1 (.inl hh)⟩), hs⟩
/-- A row of integers that grows beside a document. -/
theorem own_app {B : Nat} {w : World} {p : Nat} {M : Dm} {ao : Option Addr} {n cap : Nat} {xs : List Value} (hX : DX (fun k => k < B ∨ blkOf ao k) w p M) (hB : B ≤ w.heap.size) (hO : OwnZ (fun k => k < B) w 3 1 ao n cap xs) (hn : n ≤ 1000000) (x : Int) :
    ∃ ao' cap' w', (Builtin.append_ #[32, 32] 32 #[.slice ao n cap, .slice (some ⟨w.heap.size, 0, none⟩) 1 1]).run Try.prog (w.alloc (.cells #[.int .i64 x] 3)) = .ok (.slice ao' (n + 1) cap') w' ∧ OwnZ (fun k => k < B) w' 3 1 ao' (n + 1) cap' (xs ++ [.int .i64 x]) ∧ DX (fun k => k < B ∨ blkOf ao' k) w' p M ∧ Kept (fun k => k < B) w w' := by
  have hO' : OwnZ (fun k => k < w.heap.size ∧ ¬ blkOf ao k) w 3 1 ao n cap xs := OwnZ.to hO (fun g hg hh => hh.2 hg) (fun _ _ => rfl)
  obtain ⟨ao', cap', w', hr, hO2, hk⟩ := appI hO' (fun k hk => hk.1) (by omega) x
  have hnew : ∀ g, blkOf ao' g → blkOf ao g ∨ w.heap.size ≤ g := fun g hg => by
    have := (OwnZ.out hO2 hg).1
    by_cases hb : blkOf ao g
    · exact .inl hb
    · exact .inr (Nat.le_of_not_lt fun hl => this ⟨hl, hb⟩)
  have hkB : Kept (fun k => k < B) w w' := hk.mono fun k hk' => ⟨Nat.lt_of_lt_of_le hk' hB, fun hb => (OwnZ.out hO hb).1 hk'⟩
  obtain ⟨ga, gc, hY⟩ := hX
  have hY' := hY.keptBut (hk.mono fun k hk' => ⟨hk'.1, fun hb => hk'.2 (.inr hb)⟩)
  refine ⟨ao', cap', w', hr, OwnZ.to hO2 (fun g hg hh => ?_) (fun _ _ => rfl), ⟨ga, gc, ?_⟩, hkB⟩
  · rcases hnew g hg with h | h
    · exact (OwnZ.out hO h).1 hh
    · have : g < B := hh
      omega
  · -- the new block is none of the document's
    obtain ⟨h1, h2, h3, ys, aa, ac, ho, hx, ha, hs⟩ := hY'
    obtain ⟨i1, i2, i3, ys', aa', ac', ho', hx', ha', hs'⟩ := hY
    have hsz := hk.size
    have key : ∀ g, (blkOf ao' g) → g < w.heap.size → blkOf ao g := fun g hg hl => by
      rcases hnew g hg with h | h
      · exact h
      · omega
    have hpw := lt_block i3
    refine ⟨fun k hk' => ?_, fun hh => ?_, h3, ys', aa', ac', OwnZ.to ho' (fun g hg hh => ?_) (fun g hg => hk.block g ⟨(ho'.out hg).2, fun hb => (ho'.out hg).1 (.inl (.inr hb))⟩), hx', fun i hi => OwnZ.to (ha' i hi) (fun g hg hh => ?_) (fun g hg => hk.block g ⟨((ha' i hi).out hg).2, fun hb => ((ha' i hi).out hg).1 (.inl (.inr hb))⟩), hs'⟩
    · rcases hk' with h | h
      · have : k < B := h
        omega
      · exact (OwnZ.out hO2 h).2
    · rcases hh with h | h
      · exact i2 (.inl h)
      · exact i2 (.inr (key p h hpw))
    · rcases hh with (h | h) | h
      · exact (ho'.out hg).1 (.inl (.inl h))
      · exact (ho'.out hg).1 (.inl (.inr (key g h (ho'.out hg).2)))
      · exact (ho'.out hg).1 (.inr h)
    · rcases hh with (h | h) | h
      · exact ((ha' i hi).out hg).1 (.inl (.inl h))
      · exact ((ha' i hi).out hg).1 (.inl (.inr (key g h ((ha' i hi).out hg).2)))
      · exact ((ha' i hi).out hg).1 (.inr h)

set_option maxRecDepth 20000 in
/-- Two rows that are alike. -/
theorem same_yes (Q : List Nat) (n : Nat) (hn : Q.length = n) (a b : Option Addr) (ca cb : Nat) (w : World) (h63 : n ≤ 1000000) (ha : ∀ j (h : j < Q.length), ∃ g, a = some ⟨g, 0, none⟩ ∧ w.cell? ⟨g, j, none⟩ = some (.int .i64 (Q[j] : Int))) (hb : ∀ j (h : j < Q.length), ∃ g, b = some ⟨g, 0, none⟩ ∧ w.cell? ⟨g, j, none⟩ = some (.int .i64 (Q[j] : Int))) :
    Calls Try.prog 15 #[.slice a n ca, .slice b n cb] w fun e w' => e = .returned (.bool true) ∧ Kept (fun k => k < w.heap.size) w w' := by
  have HA : Hid (∀ j (h : j < Q.length), ∃ g, a = some ⟨g, 0, none⟩ ∧ w.cell? ⟨g, j, none⟩ = some (.int .i64 (Q[j] : Int))) := ha
  have HB : Hid (∀ j (h : j < Q.length), ∃ g, b = some ⟨g, 0, none⟩ ∧ w.cell? ⟨g, j, none⟩ = some (.int .i64 (Q[j] : Int))) := hb
  have HN : Hid (Q.length = n) := hn
  clear ha hb hn
  go_enter Try.func15, Try.ntmps15
  go_upto_region 4 with fail
  go_loopg [5] n (fun gh v wr => ∃ j : Nat, gh = n - j ∧ j ≤ n ∧ v = .int .i64 (j : Int) ∧ ∃ m, wr = w.drewN m)
  case atStart => exact ⟨0, rfl, Nat.zero_le _, rfl, 0, rfl⟩
  case round =>
    obtain ⟨j, hgj, hj, rfl, m, rfl⟩ := hrel
    by_cases hlt : j < n
    · obtain ⟨g1, rfl, d1⟩ := HA.out j (by rw [HN.out]; exact hlt)
      obtain ⟨g2, rfl, d2⟩ := HB.out j (by rw [HN.out]; exact hlt)
      obtain ⟨q, hq⟩ : ∃ q : Nat, Q[j]'(by rw [HN.out]; exact hlt) = q := ⟨_, rfl⟩
      rw [hq] at d1 d2
      have e1 : (w.drewN m).cell? ⟨g1, j, none⟩ = some (.int .i64 (q : Int)) := d1
      have e2 : (w.drewN m).cell? ⟨g2, j, none⟩ = some (.int .i64 (q : Int)) := d2
      clear hq
      go_upto_region 6 with fail
      go_quiet (fail)
      go_wp2
      go_roundg (n - (j + 1))
      case rel => exact ⟨j + 1, rfl, by omega, by go_num, _, rfl⟩
      case measure => omega
    · have hjn : j = n := by omega
      subst hjn
      go_wp2
      go_ret
      exact ⟨rfl, (Kept.refl _ w).drewN _⟩
end Go.Proofs.Ytbbknbipppaemaa
