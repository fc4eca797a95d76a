/-
  The document's own small calls: ints, attrs, without, there, Len, within, find, element.
  The document's own there, Len, within, find, element.
-/
import Derived.Test.YtbhfnbplbkncmaaGreatZ18
import Derived.Test.YtbhfnbplbkncmaaGreatZ09
import Derived.Test.YtbhfnbplbkncmaaGreatZ17
namespace Go.Proofs.YtbhfnbplbkncmaaGreat
open Go.RowKit Go.Sort
set_option linter.unusedVariables false

theorem IntsAt.cells {F : Nat → Prop} {w : World} {ka : Option Addr} {l : List Nat} (h : IntsAt F w ka l) (h0 : 0 < l.length) : ∃ g o, ka = some ⟨g, o, none⟩ ∧ F g ∧ ∀ j u, (ivs l)[j]? = some u → w.cell? ⟨g, o + j, none⟩ = some u := by
  obtain ⟨g, o, e, hg, -⟩ := h 0 h0
  refine ⟨g, o, e, hg, fun j u hj => ?_⟩
  have hjl : j < l.length := by
    rcases Nat.lt_or_ge j l.length with hl | hg
    · exact hl
    · rw [List.getElem?_eq_none (by rw [ivs, List.length_map]; exact hg)] at hj; cases hj
  obtain ⟨g', o', e', -, c0⟩ := h j hjl
  rw [e] at e'
  injection e' with e'
  injection e' with e1 e2
  subst e1 e2
  rw [ivs, List.getElem?_map, List.getElem?_eq_getElem hjl] at hj
  injection hj with hj
  rw [← hj]; exact c0
theorem ivs_one (l : List Nat) : ∀ u ∈ ivs l, u.oneCell' = true := by
  intro u hu
  obtain ⟨i, -, rfl⟩ := List.mem_map.1 hu
  rfl
set_option maxRecDepth 20000 in
theorem rints_any (l : List Nat) (aa : Option Addr) (n ac : Nat) (hln : l.length = n) (hn : n ≤ 100000000) (w : World) (ha : IntsAt (fun k => k < w.heap.size) w aa l) :
    Calls Tryz.prog 150 #[.slice aa n ac] w fun e w' => ∃ ao c, e = .returned (.slice ao n c) ∧ OwnZ (fun k => k < w.heap.size) w' 3 1 ao n c (ivs l) ∧ Kept (fun k => k < w.heap.size) w w' := by
  obtain ⟨i, hi, hip⟩ := Option.map_eq_some_iff.1 infoInt
  have hz : i.zero = _ := congrArg (·.1) hip
  have hsz : i.size = 1 := congrArg (·.2.1) hip
  have hby : i.bytes = 8 := congrArg (·.2.2) hip
  have hl2 : (ivs l).length = n * 1 := by rw [ivs, List.length_map, hln, Nat.mul_one]
  have key : ∃ ao c w', (Builtin.append_ #[32, 32] 32 #[.slice none 0 0, .slice aa n ac]).run Tryz.prog w = .ok (.slice ao n c) w' ∧ OwnZ (fun k => k < w.heap.size) w' 3 1 ao n c (ivs l) ∧ Kept (fun k => k < w.heap.size) w w' := by
    by_cases h0 : n = 0
    · subst h0
      have hl0 : l = [] := List.eq_nil_of_length_eq_zero hln
      subst hl0
      have hs : Src Tryz.prog i.size 32 (.slice aa 0 ac) 0 [] w := by
        cases aa with
        | none => exact Src.ofNil w Tryz.underlying32 _
        | some a => exact Src.ofSlice w Tryz.underlying32 a 0 ac [] (by simp) (fun j u hj => by simp at hj) (fun u hu => by cases hu)
      exact ⟨none, 0, w, run_append_nothing w 32 32 32 3 i Tryz.underlying32 hi none 0 0 (Nat.le_refl _) _ hs, OwnZ.nil _ _ _ _, Kept.refl _ _⟩
    · obtain ⟨g, o, rfl, hg, hc⟩ := ha.cells (by omega)
      have hs : Src Tryz.prog 1 32 (.slice (some ⟨g, o, none⟩) n ac) n (ivs l) w := by
        refine Src.ofSlice w Tryz.underlying32 _ n ac (ivs l) (by rw [hl2]) (fun j u hj => ?_) (ivs_one l)
        rw [Addr.add_lit]
        exact hc j u hj
      obtain ⟨ao, c, w', hr, ho, hk⟩ := run_appM (P := Tryz.prog) (K := fun k => k < w.heap.size) w 32 32 32 3 i _ Tryz.underlying32 hi hz 1 hsz rfl (by omega) (OwnZ.nil _ _ _ _) _ n (by omega) hn _ hs (fun _ h => h) (by omega)
      rw [Nat.zero_add] at hr ho
      exact ⟨ao, c, w', hr, ho, hk⟩
  obtain ⟨ao, c, w', hr, ho, hk⟩ := key
  have HO : Hid (OwnZ (fun k => k < w.heap.size) w' 3 1 ao n c (ivs l)) := ho
  have HK : Hid (Kept (fun k => k < w.heap.size) w w') := hk
  clear hip hz hsz hby hl2 ho hk ha hi hln
  go_enter Tryz.func150, Tryz.ntmps150
  go_wp2_with (at_builtin; refine wpList_appR (w' := w') rfl (.tmp 4) (.tmp 5) 32 32 rfl _ _ (.slice ao n c) rfl rfl hr ?_)
  go_ret
  exact ⟨ao, c, rfl, HO.out, HK.out⟩
set_option maxRecDepth 20000 in
theorem rattrs_any (l : List Atr) (aa : Option Addr) (n ac : Nat) (hln : l.length = n) (hn : n ≤ 100000000) (w : World) (ha : AtsAt (fun k => k < w.heap.size) w aa l) :
    Calls Tryz.prog 160 #[.slice aa n ac] w fun e w' => ∃ ao c, e = .returned (.slice ao n c) ∧ OwnZ (fun k => k < w.heap.size) w' 140 2 ao n c (atrCells l) ∧ Kept (fun k => k < w.heap.size) w w' := by
  obtain ⟨i, hi, hip⟩ := Option.map_eq_some_iff.1 infoA
  have hz : i.zero = _ := congrArg (·.1) hip
  have hsz : i.size = 2 := congrArg (·.2.1) hip
  have hby : i.bytes = 32 := congrArg (·.2.2) hip
  have hl2 : (atrCells l).length = n * 2 := by rw [atr_len, hln]
  have key : ∃ ao c w', (Builtin.append_ #[31, 31] 31 #[.slice none 0 0, .slice aa n ac]).run Tryz.prog w = .ok (.slice ao n c) w' ∧ OwnZ (fun k => k < w.heap.size) w' 140 2 ao n c (atrCells l) ∧ Kept (fun k => k < w.heap.size) w w' := by
    by_cases h0 : n = 0
    · subst h0
      have hl0 : l = [] := List.eq_nil_of_length_eq_zero hln
      subst hl0
      have hs : Src Tryz.prog i.size 31 (.slice aa 0 ac) 0 [] w := by
        cases aa with
        | none => exact Src.ofNil w Tryz.underlying31 _
        | some a => exact Src.ofSlice w Tryz.underlying31 a 0 ac [] (by simp) (fun j u hj => by simp at hj) (fun u hu => by cases hu)
      exact ⟨none, 0, w, run_append_nothing w 31 31 31 140 i Tryz.underlying31 hi none 0 0 (Nat.le_refl _) _ hs, OwnZ.nil _ _ _ _, Kept.refl _ _⟩
    · obtain ⟨g, o, rfl, hg, hc⟩ := ha.cells (by omega)
      have hs : Src Tryz.prog 2 31 (.slice (some ⟨g, o, none⟩) n ac) n (atrCells l) w := by
        refine Src.ofSlice w Tryz.underlying31 _ n ac (atrCells l) (by rw [hl2]) (fun j u hj => ?_) (atr_one l)
        rw [Addr.add_lit]
        exact hc j u hj
      obtain ⟨ao, c, w', hr, ho, hk⟩ := run_appM (P := Tryz.prog) (K := fun k => k < w.heap.size) w 31 31 31 140 i _ Tryz.underlying31 hi hz 2 hsz rfl (by omega) (OwnZ.nil _ _ _ _) _ n (by omega) hn _ hs (fun _ h => h) (by omega)
      rw [Nat.zero_add] at hr ho
      exact ⟨ao, c, w', hr, ho, hk⟩
  obtain ⟨ao, c, w', hr, ho, hk⟩ := key
  have HO : Hid (OwnZ (fun k => k < w.heap.size) w' 140 2 ao n c (atrCells l)) := ho
  have HK : Hid (Kept (fun k => k < w.heap.size) w w') := hk
  clear hip hz hsz hby hl2 ho hk ha hi hln
  go_enter Tryz.func160, Tryz.ntmps160
  go_wp2_with (at_builtin; refine wpList_appR (w' := w') rfl (.tmp 4) (.tmp 5) 31 31 rfl _ _ (.slice ao n c) rfl rfl hr ?_)
  go_ret
  exact ⟨ao, c, rfl, HO.out, HK.out⟩
/-- A list without one. -/
def wo (l : List Nat) (x : Int) : List Nat := l.filter fun (k : Nat) => decide ((k : Int) ≠ x)
theorem wo_cons_ne {k : Nat} {r : List Nat} {x : Int} (h : (k : Int) ≠ x) : wo (k :: r) x = k :: wo r x := by unfold wo; rw [List.filter_cons, if_pos (by simpa using h)]
theorem wo_snoc_ne {k : Nat} {r : List Nat} {x : Int} (h : (k : Int) ≠ x) : wo (r ++ [k]) x = wo r x ++ [k] := by unfold wo; rw [List.filter_append]; simp [h]
theorem wo_snoc_eq {k : Nat} {r : List Nat} {x : Int} (h : (k : Int) = x) : wo (r ++ [k]) x = wo r x := by unfold wo; rw [List.filter_append]; simp [h]
theorem wo_len (l : List Nat) (x : Int) : (wo l x).length ≤ l.length := List.length_filter_le _ _
set_option maxRecDepth 20000 in
set_option maxHeartbeats 1000000 in
theorem rwithout_any (l : List Nat) (aa : Option Addr) (n ac : Nat) (hln : l.length = n) (hn : n ≤ 100000000) (x : Int) (w : World) (ha : IntsAt (fun k => k < w.heap.size) w aa l) :
    Calls Tryz.prog 167 #[.slice aa n ac, .int .i64 x] w fun e w' => ∃ ao c, e = .returned (.slice ao (wo l x).length c) ∧ OwnZ (fun k => k < w.heap.size) w' 3 1 ao (wo l x).length c (ivs (wo l x)) ∧ Kept (fun k => k < w.heap.size) w w' := by
  have HA : Hid (IntsAt (fun k => k < w.heap.size) w aa l) := ha
  have HL : Hid (l.length = n) := hln
  clear ha hln
  go_enter Tryz.func167, Tryz.ntmps167
  go_upto_region 3 with fail
  go_loopg [5, 6] n (fun gh v5 v6 wr => ∃ (k : Nat) (ao : Option Addr) (c : Nat) (m : List Nat), gh = n - k ∧ k ≤ n ∧ v6 = .int .i64 (k : Int) ∧ m = wo (l.take k) x ∧ v5 = .slice ao m.length c ∧ OwnZ (fun k => k < w.heap.size) wr 3 1 ao m.length c (ivs m) ∧ Kept (fun k => k < w.heap.size) w wr)
  case atStart => exact ⟨0, none, 0, [], rfl, Nat.zero_le _, rfl, rfl, rfl, OwnZ.nil _ _ _ _, Kept.refl _ _⟩
  case round =>
    obtain ⟨k, ao, c, m, hgk, hk, rfl, hm, rfl, hO, hK⟩ := hrel
    have HO : Hid (OwnZ (fun k => k < w.heap.size) wr 3 1 ao m.length c (ivs m)) := hO
    have HK : Hid (Kept (fun k => k < w.heap.size) w wr) := hK
    have hml : m.length ≤ k := by
      rw [hm]
      have h1 := wo_len (l.take k) x
      rw [List.length_take] at h1
      omega
    by_cases hlt : k < n
    · have hl : k < l.length := by rw [HL.out]; exact hlt
      obtain ⟨g, o, rfl, hg, hc⟩ := HA.out k hl
      have d : wr.cell? ⟨g, o + k, none⟩ = some (.int .i64 (l[k] : Int)) := (hK.cell (p := ⟨g, o + k, none⟩) hg).trans hc
      have htk : l.take (k + 1) = l.take k ++ [l[k]] := List.take_succ_eq_append_getElem hl
      obtain ⟨y, hy⟩ : ∃ y, l[k] = y := ⟨_, rfl⟩
      rw [hy] at d htk
      have HM : Hid (m = wo (l.take k) x) := hm
      have HT : Hid (l.take (k + 1) = l.take k ++ [y]) := htk
      by_cases hxy : (y : Int) = x
      · subst hxy
        have HM2 : Hid (m = wo (l.take (k + 1)) (y : Int)) := by
          have : m = wo (l.take (k + 1)) (y : Int) := by rw [HT.out, wo_snoc_eq rfl]; exact HM.out
          exact (show Hid _ from this)
        clear hO hK hc hm htk hy
        go_wp2
        go_roundg (n - (k + 1))
        case rel => exact ⟨k + 1, ao, c, m, rfl, by omega, by go_num, HM2.out, rfl, HO.out, HK.out⟩
        case measure => omega
      · have e1 : ((y : Int) == x) = false := by simpa using hxy
        obtain ⟨ao', c', w', hr', hO', hK'⟩ := appI hO (fun k hk => Nat.lt_of_lt_of_le hk hK.size) (by omega) (y : Int)
        have HM2 : Hid (m ++ [y] = wo (l.take (k + 1)) x) := by
          have : m ++ [y] = wo (l.take (k + 1)) x := by rw [HT.out, wo_snoc_ne hxy, ← HM.out]
          exact (show Hid _ from this)
        have HO2 : Hid (OwnZ (fun k => k < w.heap.size) w' 3 1 ao' (m ++ [y]).length c' (ivs (m ++ [y]))) := by
          have : OwnZ (fun k => k < w.heap.size) w' 3 1 ao' (m ++ [y]).length c' (ivs (m ++ [y])) := by
            rw [ivs, List.map_append, List.length_append]; exact hO'
          exact (show Hid _ from this)
        have HK2 : Hid (Kept (fun k => k < w.heap.size) w w') := HK.out.trans hK'
        obtain ⟨ml, hml2⟩ : ∃ ml, m.length = ml := ⟨_, rfl⟩
        have HML : Hid (m.length = ml) := hml2
        rw [hml2] at hr' ⊢
        clear hO hK hc hm htk hy hO' hK' hml2
        go_wp2_with (at_builtin; refine wpList_appR (w' := w') rfl (.tmp 19) (.tmp 24) 32 32 rfl _ _ (.slice ao' (ml + 1) c') rfl rfl hr' ?_)
        go_roundg (n - (k + 1))
        case rel => exact ⟨k + 1, ao', c', m ++ [y], rfl, by omega, by go_num, HM2.out, by rw [List.length_append, HML.out]; rfl, HO2.out, HK2.out⟩
        case measure => omega
    · have hkn : n = k := by omega
      subst hkn
      have HM : Hid (m = wo l x) := by
        have : m = wo l x := by rw [hm, List.take_of_length_le (by rw [HL.out]; exact Nat.le_refl _)]
        exact (show Hid _ from this)
      clear hO hK hm
      go_wp2
      go_ret
      rw [← HM.out]
      exact ⟨ao, c, rfl, HO.out, HK.out⟩
end Go.Proofs.YtbhfnbplbkncmaaGreat

namespace Go.Proofs.YtbhfnbplbkncmaaGreat
open Go.RowKit Go.Sort
set_option linter.unusedVariables false
theorem rlen_any (K : Nat → Prop) (p : Nat) (M : Dm) (R G : Nat → List Nat) (w : World) (h : RX K w p M R G) :
    Calls Tryz.prog 88 #[.pointer (some ⟨p, 0, none⟩)] w fun e w' => e = .returned (.int .i64 (M.n : Int)) ∧ w' = w := by
  obtain ⟨A, h⟩ := h
  have c1 := h.c1
  clear h
  go_enter Tryz.func88, Tryz.ntmps88
  go_wp2
  go_ret
  exact ⟨rfl, rfl⟩
set_option maxRecDepth 20000 in
theorem rthere_any (K : Nat → Prop) (p : Nat) (M : Dm) (R G : Nat → List Nat) (i : Int) (w : World) (h : RX K w p M R G) :
    Calls Tryz.prog 148 #[.pointer (some ⟨p, 0, none⟩), .int .i64 i] w fun e w' => e = .returned (.bool (decide (0 ≤ i) && decide (i < (M.n : Int)))) ∧ w' = w := by
  obtain ⟨A, h⟩ := h
  have c1 := h.c1
  clear h
  by_cases h0 : 0 ≤ i
  · have e0 : decide (i ≥ 0) = true := decide_eq_true h0
    rw [decide_eq_true h0]
    go_enter Tryz.func148, Tryz.ntmps148
    go_wp2
    go_ret
    exact ⟨by simp, rfl⟩
  · have e0 : decide (i ≥ 0) = false := decide_eq_false h0
    rw [decide_eq_false h0]
    go_enter Tryz.func148, Tryz.ntmps148
    go_wp2
    go_ret
    exact ⟨by simp, rfl⟩
set_option maxRecDepth 20000 in
set_option maxHeartbeats 1000000 in
theorem rwithin_any (K : Nat → Prop) (p at_ i : Nat) (M : Dm) (R G : Nat → List Nat) (rk : Nat → Nat) (w : World) (h : RX K w p M R G) (ha : Acy M rk) (hat : at_ < M.n) (hi : i < M.n) (hn : M.n ≤ 1000000) (hge : ∀ k, k < M.n → (M.pl k).up = -1 ∨ 0 ≤ (M.pl k).up) :
    Calls Tryz.prog 183 #[.pointer (some ⟨p, 0, none⟩), .int .i64 (at_ : Int), .int .i64 (i : Int)] w fun e w' => ∃ b : Bool, e = .returned (.bool b) ∧ (b = true ↔ Wi M i at_) ∧ w' = w := by
  obtain ⟨A, h⟩ := h
  obtain ⟨g, hg, -, -, -⟩ := h.nat (by omega)
  have c1 := h.c1
  rw [hg] at c1
  have HC : Hid (∀ k, k < M.n → w.cell? ⟨g, k * 14 + 4, none⟩ = some (.int .i64 (M.pl k).up) ∧ w.cell? ⟨g, k * 14 + 7, none⟩ = some (.int .i64 (M.nd k).host)) := fun k hk => ⟨h.cell hg hk 4 _ rfl, h.cell hg hk 7 _ rfl⟩
  have HGE : Hid (∀ k, k < M.n → (M.pl k).up = -1 ∨ 0 ≤ (M.pl k).up) := hge
  have HACY : Hid (Acy M rk) := ha
  clear h hge ha
  go_enter Tryz.func183, Tryz.ntmps183
  go_upto_region 1 with fail
  go_loopg [1] (rk at_ + 1) (fun gh v wr => wr = w ∧ ((∃ k : Nat, k < M.n ∧ v = .int .i64 (k : Int) ∧ gh = rk k + 1 ∧ (Wi M i at_ ↔ Wi M i k)) ∨ (v = .int .i64 (-1) ∧ gh = 0 ∧ ¬ Wi M i at_)))
  case atStart => exact ⟨rfl, .inl ⟨at_, hat, rfl, rfl, Iff.rfl⟩⟩
  case round =>
    obtain ⟨rfl, hrel⟩ := hrel
    rcases hrel with ⟨k, hk, rfl, hgk, hW⟩ | ⟨rfl, hgk, hW⟩
    · obtain ⟨d4, d7⟩ := HC.out k hk
      have HW : Hid (Wi M i at_ ↔ Wi M i k) := hW
      by_cases hki : k = i
      · subst hki
        clear hW
        go_wp2
        go_ret
        exact ⟨true, rfl, ⟨fun _ => HW.out.2 .here, fun _ => rfl⟩, rfl⟩
      · have e1 : ((k : Int) == (i : Int)) = false := by simp; omega
        have e1' : ¬ (k : Int) = (i : Int) := by omega
        rcases HACY.out k hk with hp | ⟨m, hm, hp, hrk⟩
        · have HN : Hid (¬ Wi M i at_) := fun hh => Wi.none hki hp (HW.out.1 hh)
          have hup : (M.pl k).up = -1 := by
            unfold parI at hp
            by_cases c : (M.pl k).up = -1
            · exact c
            · rw [if_neg c] at hp; exact hp
          have hho : (M.nd k).host = -1 := by
            unfold parI at hp
            rw [if_pos hup] at hp
            exact hp
          rw [hup] at d4
          rw [hho] at d7
          clear hW hp hup hho
          go_wp2
          go_roundg 0
          case rel => exact ⟨rfl, .inr ⟨rfl, rfl, HN.out⟩⟩
          case measure => omega
        · have HN : Hid (Wi M i at_ ↔ Wi M i m) := HW.out.trans (Wi.step hki hp)
          unfold parI at hp
          rcases HGE.out k hk with hu | hu
          · rw [if_pos hu] at hp
            rw [hu] at d4
            rw [hp] at d7
            clear hW hp hu
            go_wp2
            go_roundg (rk m + 1)
            case rel => exact ⟨rfl, .inl ⟨m, hm, rfl, rfl, HN.out⟩⟩
            case measure => omega
          · rw [if_neg (by omega)] at hp
            rw [hp] at d4
            clear hW hp hu
            go_wp2
            go_roundg (rk m + 1)
            case rel => exact ⟨rfl, .inl ⟨m, hm, rfl, rfl, HN.out⟩⟩
            case measure => omega
    · have HW : Hid (¬ Wi M i at_) := hW
      clear hW
      go_wp2
      go_ret
      exact ⟨false, rfl, ⟨fun h => (by cases h), fun h => absurd h HW.out⟩, rfl⟩
/-- Where an attribute of that name stands; -1: nowhere. -/
inductive FindA (l : List Atr) (nm : List UInt8) : Int → Prop
  | yes {k : Nat} (hk : k < l.length) : l[k].name = nm → (∀ x ∈ l.take k, x.name ≠ nm) → FindA l nm (k : Int)
  | no : (∀ x ∈ l, x.name ≠ nm) → FindA l nm (-1)
set_option maxRecDepth 20000 in
set_option maxHeartbeats 1000000 in
theorem rfind_any (K : Nat → Prop) (p i : Nat) (M : Dm) (R G : Nat → List Nat) (S : ByteArray) (w : World) (h : RX K w p M R G) (hi : i < M.n) (hn : M.n ≤ 1000000) (hl : (M.nd i).attrs.length ≤ 1000000) :
    Calls Tryz.prog 158 #[.pointer (some ⟨p, 0, none⟩), .int .i64 (i : Int), .string S] w fun e w' => ∃ z, FindA (M.nd i).attrs S.toList z ∧ e = .returned (.int .i64 z) ∧ w' = w := by
  obtain ⟨A, h⟩ := h
  obtain ⟨g, hg, -, -, -⟩ := h.nat (by omega)
  have c1 := h.c1
  rw [hg] at c1
  have c3 : w.cell? ⟨g, i * 14 + 3, none⟩ = some (.slice (A.aa i) (M.nd i).attrs.length (A.ac i)) := h.cell hg hi 3 _ rfl
  have hat := h.ats i hi
  obtain ⟨l, hle⟩ : ∃ l, (M.nd i).attrs = l := ⟨_, rfl⟩
  rw [hle] at c3 hat hl ⊢
  obtain ⟨aa, haa⟩ : ∃ aa, A.aa i = aa := ⟨_, rfl⟩
  obtain ⟨ac, hac⟩ : ∃ ac, A.ac i = ac := ⟨_, rfl⟩
  rw [haa, hac] at c3
  rw [haa] at hat
  obtain ⟨n, hne⟩ : ∃ n, l.length = n := ⟨_, rfl⟩
  rw [hne] at c3 hl
  have HN : Hid (l.length = n) := hne
  have HA : Hid (AtsAt (fun x => x < w.heap.size ∧ ¬ A.bad K p M.n x) w aa l) := hat
  clear h hg hat hle haa hac hne
  go_enter Tryz.func158, Tryz.ntmps158
  go_upto_region 3 with fail
  go_loopg [8] n (fun gh v wr => ∃ k : Nat, gh = n - k ∧ k ≤ n ∧ v = .int .i64 (k : Int) ∧ (∀ x ∈ l.take k, x.name ≠ S.toList) ∧ wr = w)
  case atStart => exact ⟨0, rfl, Nat.zero_le _, rfl, fun x hx => (by cases hx), rfl⟩
  case round =>
    obtain ⟨k, hgk, hk, rfl, hno, rfl⟩ := hrel
    have HNO : Hid (∀ x ∈ l.take k, x.name ≠ S.toList) := hno
    by_cases hlt : k < n
    · have hkl : k < l.length := by rw [HN.out]; exact hlt
      obtain ⟨g1, o1, rfl, -, d0, -⟩ := HA.out k hkl
      obtain ⟨N, hNe⟩ : ∃ N : ByteArray, (⟨l[k].name.toArray⟩ : ByteArray) = N := ⟨_, rfl⟩
      have d0' : wr.cell? ⟨g1, o1 + k * 2, none⟩ = some (.string N) := by rw [← hNe]; exact d0
      have hNl : N.toList = l[k].name := by rw [← hNe, ByteArray.toList_eq]
      obtain ⟨q, hq⟩ : ∃ q, (N.toList == S.toList) = q := ⟨_, rfl⟩
      have HNL : Hid (N.toList = l[k].name) := hNl
      have HQ : Hid ((N.toList == S.toList) = q) := hq
      clear hno d0 hNe hNl
      cases q with
      | true =>
        go_wp2
        go_ret
        exact ⟨_, .yes hkl (by rw [← HNL.out]; simpa using HQ.out) HNO.out, rfl, rfl⟩
      | false =>
        go_wp2
        go_roundg (n - (k + 1))
        case rel =>
          refine ⟨k + 1, rfl, by omega, by go_num, fun x hx => ?_, rfl⟩
          rw [List.take_succ_eq_append_getElem hkl] at hx
          rcases List.mem_append.1 hx with hx | hx
          · exact HNO.out x hx
          · rw [List.mem_singleton.1 hx, ← HNL.out]
            intro e
            have := HQ.out
            rw [e] at this
            simp at this
        case measure => omega
    · have hkn : n = k := by omega
      subst hkn
      clear hno
      go_wp2
      go_ret
      exact ⟨_, .no (fun x hx => HNO.out x (by rw [List.take_of_length_le (by rw [HN.out]; exact Nat.le_refl _)]; exact hx)), rfl, rfl⟩
set_option maxRecDepth 20000 in
theorem relem_any (K : Nat → Prop) (p : Nat) (M : Dm) (R G : Nat → List Nat) (i : Int) (w : World) (h : RX K w p M R G) (hn : M.n ≤ 1000000) :
    Calls Tryz.prog 157 #[.pointer (some ⟨p, 0, none⟩), .int .i64 i] w fun e w' => e = .returned (.int .i64 (if 0 ≤ i ∧ i < (M.n : Int) then (if (M.nd i.toNat).kind = 1 then 0 else 81) else 80)) ∧ w' = w := by
  have rt := rthere_any K p M R G i w h
  by_cases c : 0 ≤ i ∧ i < (M.n : Int)
  · rw [if_pos c]
    obtain ⟨k, rfl⟩ : ∃ k : Nat, i = (k : Int) := ⟨i.toNat, by omega⟩
    rw [Int.toNat_natCast]
    have hk : k < M.n := by omega
    obtain ⟨A, h⟩ := h
    obtain ⟨g, hg, -, -, -⟩ := h.nat (by omega)
    have c1 := h.c1
    rw [hg] at c1
    have c0 : w.cell? ⟨g, k * 14, none⟩ = some (.int .u8 ((M.nd k).kind : Int)) := h.cell hg hk 0 _ rfl
    have e : (decide (0 ≤ (k : Int)) && decide ((k : Int) < (M.n : Int))) = true := by rw [decide_eq_true c.1, decide_eq_true c.2]; rfl
    rw [e] at rt
    obtain ⟨kd, hkd⟩ : ∃ kd, (M.nd k).kind = kd := ⟨_, rfl⟩
    rw [hkd] at c0 ⊢
    clear h hg hkd e
    by_cases q : kd = 1
    · subst q
      rw [if_pos rfl]
      go_enter Tryz.func157, Tryz.ntmps157
      go_wp2_with (go_at_call 148; refine rt.mono ?_; rintro e1 w3 ⟨rfl, hw3⟩; replace hw3 := hw3.symm; subst hw3)
      go_ret
      exact ⟨rfl, rfl⟩
    · have q1 : ((kd : Int) == 1) = false := by simp; omega
      rw [if_neg q]
      go_enter Tryz.func157, Tryz.ntmps157
      go_wp2_with (go_at_call 148; refine rt.mono ?_; rintro e1 w3 ⟨rfl, hw3⟩; replace hw3 := hw3.symm; subst hw3)
      go_ret
      exact ⟨rfl, rfl⟩
  · rw [if_neg c]
    have e : (decide (0 ≤ i) && decide (i < (M.n : Int))) = false := by
      by_cases h0 : 0 ≤ i
      · rw [decide_eq_true h0, decide_eq_false (fun h1 => c ⟨h0, h1⟩)]; rfl
      · rw [decide_eq_false h0]; rfl
    rw [e] at rt
    clear h c e
    go_enter Tryz.func157, Tryz.ntmps157
    go_wp2_with (go_at_call 148; refine rt.mono ?_; rintro e1 w3 ⟨rfl, hw3⟩; replace hw3 := hw3.symm; subst hw3)
    go_ret
    exact ⟨rfl, rfl⟩
end Go.Proofs.YtbhfnbplbkncmaaGreat
