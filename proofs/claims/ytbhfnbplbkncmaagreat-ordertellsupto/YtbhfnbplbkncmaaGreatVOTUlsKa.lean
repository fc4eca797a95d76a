/-
  order.kids, shadowAndKids; an append of a row of numbers.
-/
import Derived.Test.YtbhfnbplbkncmaaGreatYT38
import Derived.Test.YtbhfnbplbkncmaaGreatZ19
import Derived.Test.YtbhfnbplbkncmaaGreatVOTUlsPu
namespace Go.Proofs.YtbhfnbplbkncmaaGreat
open Go.RowKit Go.Sort
set_option linter.unusedVariables false
theorem ivs_append (a b : List Nat) : ivs (a ++ b) = ivs a ++ ivs b := List.map_append
/-- append(s, t...) of numbers. -/
theorem app_ints {K F : Nat → Prop} {w : World} {ao aa : Option Addr} {n cap m ac : Nat} {xs l : List Nat} (hO : OwnZ K w 3 1 ao n cap (ivs xs)) (hl : l.length = m) (ha : IntsAt F w aa l) (hK : ∀ k, K k → k < w.heap.size) (hn : n ≤ 100000000) (hm : m ≤ 100000000) :
    ∃ ao' c' w', (Builtin.append_ #[32, 32] 32 #[.slice ao n cap, .slice aa m ac]).run Tryz.prog w = .ok (.slice ao' (n + m) c') w' ∧ OwnZ K w' 3 1 ao' (n + m) c' (ivs (xs ++ l)) ∧ Kept K w w' := by
  obtain ⟨i, hi, hip⟩ := Option.map_eq_some_iff.1 infoInt
  have hz : i.zero = _ := congrArg (·.1) hip
  have hsz : i.size = 1 := congrArg (·.2.1) hip
  have hby : i.bytes = 8 := congrArg (·.2.2) hip
  by_cases h0 : m = 0
  · subst h0
    have hl0 : l = [] := List.eq_nil_of_length_eq_zero hl
    subst hl0
    have hs : Src Tryz.prog i.size 32 (.slice aa 0 ac) 0 [] w := by
      cases aa with
      | none => exact Src.ofNil w Tryz.underlying32 _
      | some a => exact Src.ofSlice w Tryz.underlying32 a 0 ac [] (by simp) (fun j u hj => by simp at hj) (fun u hu => by cases hu)
    exact ⟨ao, cap, w, run_append_nothing w 32 32 32 3 i Tryz.underlying32 hi ao n cap hO.2.1 _ hs, by rw [List.append_nil]; exact hO, Kept.refl _ _⟩
  · obtain ⟨g, o, rfl, hg, hc⟩ := ha.cells (by omega)
    have hl2 : (ivs l).length = m * 1 := by rw [ivs, List.length_map, hl, Nat.mul_one]
    have hs : Src Tryz.prog 1 32 (.slice (some ⟨g, o, none⟩) m ac) m (ivs l) w := by
      refine Src.ofSlice w Tryz.underlying32 _ m ac (ivs l) (by rw [hl2]) (fun j u hj => ?_) (ivs_one l)
      rw [Addr.add_lit]
      exact hc j u hj
    obtain ⟨ao', c', w', hr, ho, hk⟩ := run_appM (P := Tryz.prog) (K := K) w 32 32 32 3 i _ Tryz.underlying32 hi hz 1 hsz rfl (by omega) hO _ m (by omega) hm _ hs hK (by omega)
    exact ⟨ao', c', w', hr, by rw [ivs_append]; exact ho, hk⟩
/-- What is asked of 'follow'. -/
def FoOk (fo : Nat) (M : Dm) (R Fw : Nat → List Nat) : Prop := ∀ i, i < M.n → ∀ ao ac up ko kc (P : Nat → Prop) X, IntsAt (fun g => P g ∧ g < X.heap.size) X ko (R i) → (R i).length ≤ 100000 →
  Calls Tryz.prog fo #[.agg (outN (M.nd i) ao ac up ko (R i).length kc)] X fun e w' => ∃ fa fc, e = .returned (.slice fa (Fw i).length fc) ∧ IntsAt (fun g => (P g ∨ X.heap.size ≤ g) ∧ g < w'.heap.size) w' fa (Fw i) ∧ Kept (fun k => k < X.heap.size) X w'
set_option maxRecDepth 20000 in
theorem kids_ok (M : Dm) (R : Nat → List Nat) : FoOk 82 M R R := by
  intro i hi ao ac up ko kc P X hQ hl
  obtain ⟨V, hV⟩ : ∃ V, X.alloc (.cells (outN (M.nd i) ao ac up ko (R i).length kc) 36) = V := ⟨_, rfl⟩
  obtain ⟨N, hN⟩ : ∃ N, X.heap.size = N := ⟨_, rfl⟩
  have hb : V.heap[N]? = some (.cells (outN (M.nd i) ao ac up ko (R i).length kc) 36 (0, 0)) := by rw [← hV, ← hN]; exact heap_alloc_new X _
  have c5 : V.cell? ⟨N, 5, none⟩ = some (.slice ko (R i).length kc) := by rw [cell_block hb]; rfl
  have hk : Kept (fun k => k < X.heap.size) X V := by rw [← hV]; exact (Kept.refl _ X).alloc (fun _ h => h) _
  have HR : Hid (IntsAt (fun g => (P g ∨ X.heap.size ≤ g) ∧ g < V.heap.size) V ko (R i)) := hQ.to (fun g hg => ⟨.inl hg.1, Nat.lt_of_lt_of_le hg.2 hk.size⟩) (fun g hg => hk.block g hg.2)
  have HK : Hid (Kept (fun k => k < X.heap.size) X V) := hk
  have HV : Hid (X.alloc (.cells (outN (M.nd i) ao ac up ko (R i).length kc) 36) = V) := hV
  have HN : Hid (X.heap.size = N) := hN
  clear hV hN hb hk hQ
  go_enter Tryz.func82, Tryz.ntmps82
  go_upto_region 1 with fail
  rw [HV.out, HN.out]
  go_wp2
  go_ret
  exact ⟨ko, kc, rfl, HR.out, HK.out⟩
set_option maxRecDepth 20000 in
set_option maxHeartbeats 1000000 in
theorem sak_ok {M : Dm} {R G : Nat → List Nat} {rk : Nat → Nat} (hI : Inv M R G rk) : FoOk 83 M R (fwd M R) := by
  intro i hi ao ac up ko kc P X hQ hl
  obtain ⟨V, hV⟩ : ∃ V, X.alloc (.cells (outN (M.nd i) ao ac up ko (R i).length kc) 36) = V := ⟨_, rfl⟩
  obtain ⟨N, hN⟩ : ∃ N, X.heap.size = N := ⟨_, rfl⟩
  have hb : V.heap[N]? = some (.cells (outN (M.nd i) ao ac up ko (R i).length kc) 36 (0, 0)) := by rw [← hV, ← hN]; exact heap_alloc_new X _
  have c5 : V.cell? ⟨N, 5, none⟩ = some (.slice ko (R i).length kc) := by rw [cell_block hb]; rfl
  have c6 : V.cell? ⟨N, 6, none⟩ = some (.int .i64 (M.nd i).shadow) := by rw [cell_block hb]; rfl
  have hk : Kept (fun k => k < X.heap.size) X V := by rw [← hV]; exact (Kept.refl _ X).alloc (fun _ h => h) _
  have hr : IntsAt (fun g => (P g ∨ X.heap.size ≤ g) ∧ g < V.heap.size) V ko (R i) := hQ.to (fun g hg => ⟨.inl hg.1, Nat.lt_of_lt_of_le hg.2 hk.size⟩) (fun g hg => hk.block g hg.2)
  have HR : Hid (IntsAt (fun g => (P g ∨ X.heap.size ≤ g) ∧ g < V.heap.size) V ko (R i)) := hr
  have HK : Hid (Kept (fun k => k < X.heap.size) X V) := hk
  have HV : Hid (X.alloc (.cells (outN (M.nd i) ao ac up ko (R i).length kc) 36) = V) := hV
  have HN : Hid (X.heap.size = N) := hN
  unfold fwd
  rcases hI.core.shad i hi with e | ⟨s, hs, e, -⟩
  · rw [if_pos e]
    rw [e] at c6
    clear hV hN hb hk hQ hr e
    go_enter Tryz.func83, Tryz.ntmps83
    go_upto_region 1 with fail
    rw [HV.out, HN.out]
    go_wp2
    go_ret
    exact ⟨ko, kc, rfl, HR.out, HK.out⟩
  · rw [if_neg (by omega), e, Int.toNat_natCast]
    rw [e] at c6
    have e1 : ((s : Int) == -1) = false := by simp
    obtain ⟨V2, hV2⟩ : ∃ V2, V.alloc (.cells #[.int .i64 (s : Int)] 3) = V2 := ⟨_, rfl⟩
    obtain ⟨N2, hN2⟩ : ∃ N2, V.heap.size = N2 := ⟨_, rfl⟩
    have hb2 : V2.heap[N2]? = some (.cells #[.int .i64 (s : Int)] 3 (0, 0)) := by rw [← hV2, ← hN2]; exact heap_alloc_new V _
    have hk2 : Kept (fun k => k < V.heap.size) V V2 := by rw [← hV2]; exact (Kept.refl _ V).alloc (fun _ h => h) _
    have hO : OwnZ (fun k => k < V.heap.size) V2 3 1 (some ⟨N2, 0, none⟩) 1 1 (ivs [s]) := ⟨rfl, Nat.le_refl _, by unfold maxLen; omega, .inr ⟨N2, _, rfl, by rw [hN2]; exact Nat.lt_irrefl _, hb2, rfl, rfl⟩⟩
    obtain ⟨ao', c', w', hrun, hO', hK'⟩ := app_ints (ac := kc) hO rfl (hr.to (F' := fun _ => True) (fun _ _ => trivial) (fun g hg => hk2.block g hg.2)) (fun k hk => Nat.lt_of_lt_of_le hk hk2.size) (by omega) (by omega)
    have c5' : V2.cell? ⟨N, 5, none⟩ = some (.slice ko (R i).length kc) := (hk2.cell (p := ⟨N, 5, none⟩) (lt_block hb)).trans c5
    have c5a : (V.alloc (.cells #[.int .i64 (s : Int)] 3)).cell? ⟨N, 5, none⟩ = some (.slice ko (R i).length kc) := by rw [hV2]; exact c5'
    have hKV : Kept (fun k => k < V.heap.size) V w' := hk2.trans hK'
    have HF : Hid (Kept (fun k => k < X.heap.size) X w') := hk.trans (hKV.mono fun k h => Nat.lt_of_lt_of_le h hk.size)
    have HI : Hid (IntsAt (fun g => (P g ∨ X.heap.size ≤ g) ∧ g < w'.heap.size) w' ao' (s :: R i)) := hO'.intsAt (fun g hg => ⟨.inr (by have := (hO'.out hg).1; have := hk.size; omega), (hO'.out hg).2⟩)
    have HV2 : Hid (V.alloc (.cells #[.int .i64 (s : Int)] 3) = V2) := hV2
    have HN2 : Hid (V.heap.size = N2) := hN2
    have hlen : (s :: R i).length = 1 + (R i).length := by rw [List.length_cons]; omega
    rw [hlen]
    have HLEN : Hid ((s :: R i).length = 1 + (R i).length) := hlen
    clear hV hN hb hk hQ hr e hV2 hN2 hb2 hk2 hO hO' hK' hKV hlen c5'
    go_enter Tryz.func83, Tryz.ntmps83
    go_upto_region 1 with fail
    rw [HV.out, HN.out]
    go_wp2_with (at_builtin; rw [HV2.out, HN2.out]; refine wpList_appR (w' := w') rfl (.tmp 10) (.tmp 12) 32 32 rfl _ _ (.slice ao' (1 + (R i).length) c') rfl rfl hrun ?_)
    go_ret
    exact ⟨ao', c', rfl, HI.out, HF.out⟩
end Go.Proofs.YtbhfnbplbkncmaaGreat
