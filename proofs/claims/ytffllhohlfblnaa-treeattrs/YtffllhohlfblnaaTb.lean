/-
  TreeAttrs: what the Go text answers.
-/
import Derived.Test.YtffllhohlfblnaaTa
import Derived.Deep.QuietTactic
import Derived.BigQuiet
import Derived.Deep.LoopGhost
import Derived.Deep.RegionLaw
import Derived.Deep.Cut
import Derived.Deep.CutBlock
namespace Go.Proofs.Ytffllhohlfblnaa
open Go.RowKit
theorem eql41 (S1 T1 S2 T2 : ByteArray) (X : World) : (binOp .eql 41 (.agg #[.string S1, .string T1]) (.agg #[.string S2, .string T2])).run Try.prog X = .ok (.bool ((S1.toList == S2.toList) && (T1.toList == T2.toList))) X := by
  have hS : Try.prog.underlying 41 = some (.struct (Try.prog.fieldsOf 41)) := by kernel_rfl
  have hp : Try.prog.stoodInHeld 41 = false := by kernel_rfl
  rw [run_eql_struct, show (10000 : Nat) = 9999 + 1 from rfl, run_equalIn_agg X 9999 41 _ _ hS hp]
  have u3 := Try.underlying9
  have z3 : Try.prog.cellsOf 9 = 1 := by kernel_rfl
  simp only [Program.fieldsOf, Try.underlying41]
  go_simp
  cases h1 : (S1.toList == S2.toList) <;> cases h2 : (T1.toList == T2.toList) <;> simp_all
theorem grd41 : Try.prog.eqGuardType Try.prog.depth 41 = false := by kernel_rfl

set_option maxRecDepth 20000 in
set_option maxHeartbeats 1000000 in
/-- More than forty: how many bytes there are does not matter. -/
theorem attrs_many (l : List Atr) (aa : Option Addr) (n ac : Nat) (hln : l.length = n) (h40 : ¬ n ≤ 40) (hn : n ≤ 9223372036854775807) (w : World) (ha : AtsIn (fun k => k < w.heap.size) w aa l) :
    Calls Try.prog 5 #[.slice aa n ac] w fun e w' => e = .returned (.bool true) ∧ Kept (fun k => k < w.heap.size) w w' := by
  have hg : decide ((n : Int) > 40) = true := decide_eq_true (by omega)
  have HL : Hid (l.length = n) := hln
  have HA : Hid (AtsIn (fun k => k < w.heap.size) w aa l) := ha
  clear hln ha
  go_enter Try.func5, Try.ntmps5
  go_upto_region 3 with fail
  go_loopg [3, 4] n (fun gm sv iv wr => ∃ (k m : Nat) (s : Int), gm = n - k ∧ k ≤ n ∧ sv = .int .i64 s ∧ iv = .int .i64 (k : Int) ∧ wr = w.drewN m)
  case atStart => exact ⟨0, 0, 0, rfl, Nat.zero_le _, rfl, rfl, rfl⟩
  case round =>
    obtain ⟨k, m, s, hgk, hk, rfl, rfl, rfl⟩ := hrel
    by_cases hlt : k < n
    · obtain ⟨g, o, rfl, hgs, c0, c1⟩ := HA.out k (by rw [HL.out]; exact hlt)
      clear HA hg h40
      obtain ⟨U, hU⟩ : ∃ S : ByteArray, (⟨(l[k]'(by rw [HL.out]; exact hlt)).name.toArray⟩ : ByteArray) = S := ⟨_, rfl⟩
      obtain ⟨V, hV⟩ : ∃ S : ByteArray, (⟨(l[k]'(by rw [HL.out]; exact hlt)).value.toArray⟩ : ByteArray) = S := ⟨_, rfl⟩
      replace c0 : w.cell? ⟨g, o + k * 2, none⟩ = some (.string U) := by rw [← hU]; exact c0
      replace c1 : w.cell? ⟨g, o + k * 2 + 1, none⟩ = some (.string V) := by rw [← hV]; exact c1
      clear hU hV HL hgs
      go_upto_region 5 with fail
      go_quiet (fail)
      go_wp2
      go_roundg (n - (k + 1))
      case rel => exact ⟨k + 1, _, _, rfl, by omega, rfl, by go_num, rfl⟩
      case measure => omega
    · have hkk : k = n := by omega
      subst hkk
      have rk := known_any (w.drewN m)
      go_wp2_with fail
      refine rk.mono ?_
      rintro e w1 ⟨rfl, k1⟩
      have k2 : Kept (fun k => k < w.heap.size) w w1 := ((Kept.refl _ w).drewN m).trans (k1.mono fun x hx => by simpa using hx)
      clear rk k1
      go_wp2
      go_ret
      exact ⟨rfl, k2⟩
theorem atr_ext {a b : Atr} (h1 : a.name = b.name) (h2 : a.value = b.value) : a = b := by
  cases a; cases b; cases h1; cases h2; rfl

/-- One token whose attributes came in. -/
theorem tok1 (X : World) (l : List Atr) (aa : Option Addr) (n ac : Nat) (hln : l.length = n) (h : AtsIn (fun k => k < X.heap.size) X aa l) (V : World) (N : Nat) (hN : X.heap.size = N) (hV : X.alloc (.cells #[.int .u8 1, .string ⟨#[100, 105, 118]⟩, .slice aa n ac, .bool false, .string ⟨#[]⟩, .int .i64 0] 43) = V) :
    ToksIn (fun k => k < V.heap.size) V (some ⟨N, 0, none⟩) [⟨1, [100, 105, 118], l, false, [], 0⟩] := by
  intro j hj
  have hj0 : j = 0 := by simp at hj; omega
  subst hj0
  have kV : Kept (fun k => k < X.heap.size) X V := by rw [← hV]; exact (Kept.refl _ X).alloc (fun _ h => h) _
  have sV : N < V.heap.size := by rw [← hV, ← hN]; simp
  have hc : ∀ i u, [Value.int .u8 1, .string ⟨#[100, 105, 118]⟩, .slice aa n ac, .bool false, .string ⟨#[]⟩, .int .i64 0][i]? = some u → V.cell? ⟨N, i, none⟩ = some u := by
    intro i u hi
    rw [← hV, ← hN, cell_block (heap_alloc_new X _), ← Array.getElem?_toList]
    exact hi
  refine ⟨N, aa, ac, rfl, sV, h.kept kV fun k hk => Nat.lt_of_lt_of_le hk kV.size, hc 0 _ rfl, hc 1 _ rfl, ?_, hc 3 _ rfl, hc 4 _ rfl, hc 5 _ rfl⟩
  show V.cell? ⟨N, 2, none⟩ = some (.slice aa l.length ac)
  rw [hln]
  exact hc 2 _ rfl

set_option maxRecDepth 20000 in
set_option maxHeartbeats 2000000 in
/-- Forty or less. -/
theorem attrs_few (l : List Atr) (aa : Option Addr) (n ac : Nat) (hln : l.length = n) (h40 : n ≤ 40) (hsz : ∀ x ∈ l, x.name.length ≤ 140737488355328 ∧ x.value.length ≤ 140737488355328) (w : World) (ha : AtsIn (fun k => k < w.heap.size) w aa l) :
    Calls Try.prog 5 #[.slice aa n ac] w fun e w' => e = .returned (.bool true) ∧ Kept (fun k => k < w.heap.size) w w' := by
  have hg : decide ((n : Int) > 40) = false := decide_eq_false (by omega)
  have HL : Hid (l.length = n) := hln
  have HA : Hid (AtsIn (fun k => k < w.heap.size) w aa l) := ha
  have HSZ : Hid (∀ x ∈ l, x.name.length ≤ 140737488355328 ∧ x.value.length ≤ 140737488355328) := hsz
  have HG : Hid (decide ((n : Int) > 40) = false) := hg
  clear hln ha hsz hg
  go_enter Try.func5, Try.ntmps5
  go_upto_region 3 with fail
  go_loopg [3, 4] n (fun gm sv iv wr => ∃ (k m : Nat), gm = n - k ∧ k ≤ n ∧ sv = .int .i64 (sumA (l.take k) : Int) ∧ iv = .int .i64 (k : Int) ∧ wr = w.drewN m)
  case atStart => exact ⟨0, 0, rfl, Nat.zero_le _, rfl, rfl, rfl⟩
  case round =>
    obtain ⟨k, m, hgk, hk, rfl, rfl, rfl⟩ := hrel
    by_cases hlt : k < n
    · have hl : k < l.length := by rw [HL.out]; exact hlt
      obtain ⟨g, o, rfl, hgs, c0, c1⟩ := HA.out k hl
      have hmem := HSZ.out l[k] (List.getElem_mem hl)
      have hs0 := sumA_le (l.take k) 140737488355328 fun x hx => HSZ.out x (List.mem_of_mem_take hx)
      have hs1 : (l.take k).length ≤ 40 := by rw [List.length_take]; omega
      have hs2 := sumA_take l k hl
      obtain ⟨U, hU⟩ : ∃ S : ByteArray, (⟨(l[k]).name.toArray⟩ : ByteArray) = S := ⟨_, rfl⟩
      obtain ⟨V, hV⟩ : ∃ S : ByteArray, (⟨(l[k]).value.toArray⟩ : ByteArray) = S := ⟨_, rfl⟩
      have z0 : U.size = (l[k]).name.length := by rw [← hU]; rfl
      have z1 : V.size = (l[k]).value.length := by rw [← hV]; rfl
      replace c0 : w.cell? ⟨g, o + k * 2, none⟩ = some (.string U) := by rw [← hU]; exact c0
      replace c1 : w.cell? ⟨g, o + k * 2 + 1, none⟩ = some (.string V) := by rw [← hV]; exact c1
      obtain ⟨s, hs⟩ : ∃ s, sumA (l.take k) = s := ⟨_, rfl⟩
      rw [hs] at hs0 hs2 ⊢
      obtain ⟨u, hu⟩ : ∃ u, U.size = u := ⟨_, rfl⟩
      obtain ⟨v, hv⟩ : ∃ v, V.size = v := ⟨_, rfl⟩
      have hs3 : sumA (l.take (k + 1)) = s + (u + v) := by omega
      have hs4 : s + (u + v) ≤ 22517998136852480 := by
        have : (l.take k).length * (2 * 140737488355328) ≤ 39 * (2 * 140737488355328) := Nat.mul_le_mul_right _ (by rw [List.length_take]; omega)
        omega
      have HS3 : Hid (sumA (l.take (k + 1)) = s + (u + v)) := hs3
      clear HA HG hU hV hgs hmem hs0 hs1 hs2 hs z0 z1 hs3 HSZ
      go_upto_region 5 with fail
      go_quiet (fail)
      go_wp2
      go_roundg (n - (k + 1))
      case rel => exact ⟨k + 1, _, rfl, by omega, by rw [HS3.out]; go_num, by go_num, rfl⟩
      case measure => omega
    · have hkk : k = n := by omega
      subst hkk
      have et : l.take k = l := List.take_of_length_le (by rw [HL.out]; exact Nat.le_refl _)
      rw [et]
      have hsm := sumA_mem l
      obtain ⟨s, hs⟩ : ∃ s, sumA l = s := ⟨_, rfl⟩
      rw [hs] at hsm ⊢
      have rk := known_any (w.drewN m)
      have hg := HG.out
      clear et hs
      by_cases h5 : s ≤ 5000
      · have hg5 : decide ((s : Int) > 5000) = false := decide_eq_false (by omega)
        go_wp2_with fail
        refine rk.mono ?_
        rintro e w1 ⟨rfl, k1⟩
        have k2 : Kept (fun k => k < w.heap.size) w w1 := ((Kept.refl _ w).drewN m).trans (k1.mono fun x hx => by simpa using hx)
        clear rk k1
        have hm9 : ∀ x ∈ l, x.name.length ≤ 1000000000 ∧ x.value.length ≤ 1000000000 := fun x hx => by
          have := hsm x hx
          omega
        have ha1 : AtsIn (fun x => x < w1.heap.size) w1 aa l := HA.out.kept k2 fun x hx => Nat.lt_of_lt_of_le hx k2.size
        obtain ⟨N, hN⟩ : ∃ N, w1.heap.size = N := ⟨_, rfl⟩
        obtain ⟨V, hV⟩ : ∃ V, w1.alloc (.cells #[.int .u8 1, .string ⟨#[100, 105, 118]⟩, .slice aa k ac, .bool false, .string ⟨#[]⟩, .int .i64 0] 43) = V := ⟨_, rfl⟩
        have hT := tok1 w1 l aa k ac HL.out ha1 V N hN hV
        have kV : Kept (fun x => x < w1.heap.size) w1 V := by rw [← hV]; exact (Kept.refl _ w1).alloc (fun _ h => h) _
        have hkl := keepA_len l []
        have hll := HL.out
        have hq : (keepA [] l).length ≤ 50 := by omega
        have r2 := build_any [⟨1, [100, 105, 118], l, false, [], 0⟩] (some ⟨N, 0, none⟩) 1 1 rfl (by decide) (by show l.length + 2 + 0 ≤ 600000; omega) (by intro t ht; simp at ht; subst ht; exact hm9) V hT
        rw [build1 l hq] at r2
        have hso := sound1 l hq
        have hsub : ((keepA [] l).drop 0).Sublist (l.drop 0) := keepA_sub l []
        have hzs : ∀ y ∈ [(⟨0, 1, [100, 105, 118], keepA [] l, []⟩ : It).z], y.attrs.length ≤ 100000000 ∧ ∀ x ∈ y.attrs, x.name.length ≤ 1000000000 ∧ x.value.length ≤ 1000000000 := by
          intro y hy
          simp at hy
          subst hy
          exact ⟨Nat.le_trans hq (by decide), fun x hx => hm9 x ((keepA_sub l []).mem hx)⟩
        obtain ⟨S, hS⟩ : ∃ S, keepA [] l = S := ⟨_, rfl⟩
        rw [hS] at r2 hso hsub hkl hq hzs
        obtain ⟨q, hqe⟩ : ∃ q, S.length = q := ⟨_, rfl⟩
        obtain ⟨d, hd⟩ : ∃ d, l.length - q = d := ⟨_, rfl⟩
        rw [hqe] at r2 hkl hq
        rw [hd] at r2
        have r2' : Calls Try.prog 11 #[.slice (some ⟨N, 0, none⟩) 1 1] V fun e w' => (∃ g oa oc ic fa fc, e = .returned (.tuple #[.slice (some ⟨g, 0, none⟩) 1 ic, .slice fa d fc, .int .u16 0]) ∧ ItsIn w' (some ⟨g, 0, none⟩) [⟨0, 1, [100, 105, 118], S, []⟩] ∧ w'.cell? ⟨g, 4, none⟩ = some (.slice oa q oc) ∧ AtsIn (fun x => x < w'.heap.size) w' oa S) ∧ Kept (fun x => x < V.heap.size) V w' := by
          refine r2.mono ?_
          rintro e w' ⟨⟨ia, ic, fa, fc, e1, e2, -⟩, e3⟩
          obtain ⟨g, oa, oc, rfl, -, e4, -, e5⟩ := e2 0 (by simp)
          have e6 := e5 4 _ rfl
          refine ⟨⟨g, oa, oc, ic, fa, fc, ?_, e2, ?_, e4⟩, e3⟩
          · rw [e1]
            simp
          · rw [← hqe]
            exact e6
        have hqd : q + d = k := by omega
        have HN : Hid (w1.heap.size = N) := hN
        have HV : Hid (w1.alloc (.cells #[.int .u8 1, .string ⟨#[100, 105, 118]⟩, .slice aa k ac, .bool false, .string ⟨#[]⟩, .int .i64 0] 43) = V) := hV
        have HK1 : Hid (Kept (fun x => x < w.heap.size) w V) := k2.trans (kV.mono fun x hx => Nat.lt_of_lt_of_le hx k2.size)
        have HSO : Hid (soundL [(⟨0, 1, [100, 105, 118], S, []⟩ : It).z] = true) := hso
        have HSUB : Hid ((S.drop 0).Sublist (l.drop 0)) := hsub
        have HZS : Hid (∀ y ∈ [(⟨0, 1, [100, 105, 118], S, []⟩ : It).z], y.attrs.length ≤ 100000000 ∧ ∀ x ∈ y.attrs, x.name.length ≤ 1000000000 ∧ x.value.length ≤ 1000000000) := hzs
        have HQ : Hid (S.length = q) := hqe
        have HQD : Hid (q + d = k) := hqd
        clear r2 hm9 ha1 hN hV hT kV hkl hll hso hsub hzs hS hqe hd k2 hsm HSZ
        go_wp2_with fail
        rw [HV.out, HN.out]
        refine r2'.mono ?_
        rintro e w2 ⟨⟨g, oa, oc, ic, fa, fc, rfl, hI, c4, hO⟩, k3⟩
        have HK2 : Hid (Kept (fun x => x < w.heap.size) w w2) := HK1.out.trans (k3.mono fun x hx => Nat.lt_of_lt_of_le hx HK1.out.size)
        have HI : Hid (ItsIn w2 (some ⟨g, 0, none⟩) [⟨0, 1, [100, 105, 118], S, []⟩]) := hI
        have HO : Hid (AtsIn (fun x => x < w2.heap.size) w2 oa S) := hO
        have HA2 : Hid (AtsIn (fun x => x < w2.heap.size) w2 aa l) := HA.out.kept HK2.out fun x hx => Nat.lt_of_lt_of_le hx HK2.out.size
        clear r2' hI hO k3 HV HN HK1 HA
        have hne : ((q : Int) + (d : Int) != (k : Int)) = false := by
          have := HQD.out
          simp
          omega
        go_upto_region 13 with fail
        clear hne hg5 hg h5 hq
        go_loopg [8, 9] k (fun gm kv iv wr => ∃ (i j mm : Nat), gm = k - i ∧ i ≤ k ∧ kv = .int .i64 (j : Int) ∧ iv = .int .i64 (i : Int) ∧ j ≤ q ∧ (S.drop j).Sublist (l.drop i) ∧ wr = w2.drewN mm)
        case atStart => exact ⟨0, 0, 0, rfl, Nat.zero_le _, rfl, rfl, Nat.zero_le _, HSUB.out, rfl⟩
        case round =>
          clear HSUB
          obtain ⟨i, j, mm, hgi, hi, rfl, rfl, hj, hsb, rfl⟩ := hrel
          have HSB : Hid ((S.drop j).Sublist (l.drop i)) := hsb
          clear hsb
          by_cases hik : i < k
          · by_cases hjq : j < q
            · have hil : i < l.length := by rw [HL.out]; exact hik
              have hjl : j < S.length := by rw [HQ.out]; exact hjq
              obtain ⟨g1, o1, rfl, hg1, d1, e1⟩ := HO.out j hjl
              obtain ⟨g2, o2, rfl, hg2, d2, e2⟩ := HA2.out i hil
              have heq := fun X => eql41 ⟨S[j].name.toArray⟩ ⟨S[j].value.toArray⟩ ⟨l[i].name.toArray⟩ ⟨l[i].value.toArray⟩ X
              simp only [ByteArray.toList_eq] at heq
              have hg41 := grd41
              unfold sv at d1 e1 d2 e2
              obtain ⟨x1, hx1⟩ : ∃ x : ByteArray, (⟨S[j].name.toArray⟩ : ByteArray) = x := ⟨_, rfl⟩
              obtain ⟨x2, hx2⟩ : ∃ x : ByteArray, (⟨S[j].value.toArray⟩ : ByteArray) = x := ⟨_, rfl⟩
              obtain ⟨y1, hy1⟩ : ∃ x : ByteArray, (⟨l[i].name.toArray⟩ : ByteArray) = x := ⟨_, rfl⟩
              obtain ⟨y2, hy2⟩ : ∃ x : ByteArray, (⟨l[i].value.toArray⟩ : ByteArray) = x := ⟨_, rfl⟩
              obtain ⟨r, hr⟩ : ∃ r, ((S[j].name == l[i].name) && (S[j].value == l[i].value)) = r := ⟨_, rfl⟩
              have HR : Hid (((S[j].name == l[i].name) && (S[j].value == l[i].value)) = r) := hr
              have heq' : ∀ X, (binOp .eql 41 (.agg #[.string x1, .string x2]) (.agg #[.string y1, .string y2])).run Try.prog X = .ok (.bool r) X := by rw [← hr, ← hx1, ← hx2, ← hy1, ← hy2]; exact heq
              rw [hx1] at d1
              rw [hx2] at e1
              rw [hy1] at d2
              rw [hy2] at e2
              clear hx1 hx2 hy1 hy2 hg1 hg2 heq hr HI HO HA2 HK2 HSO HZS
              cases r with
              | true =>
                have hab : S[j] = l[i] := by
                  have := HR.out
                  simp at this
                  exact atr_ext this.1 this.2
                have HSB' : Hid ((S.drop (j + 1)).Sublist (l.drop (i + 1))) := greedy_eq hjl hil hab HSB.out
                clear hab HSB HR hjl hil
                go_upto_region 15 with fail
                go_quiet (fail)
                go_wp2
                go_roundg (k - (i + 1))
                case rel => exact ⟨i + 1, j + 1, _, rfl, by omega, by go_num, by go_num, by omega, HSB'.out, rfl⟩
                case measure => omega
              | false =>
                have hab : S[j] ≠ l[i] := by
                  intro hc
                  have := HR.out
                  rw [hc] at this
                  simp at this
                have HSB' : Hid ((S.drop j).Sublist (l.drop (i + 1))) := greedy_ne hjl hil hab HSB.out
                clear hab HSB HR hjl hil
                go_upto_region 15 with fail
                go_quiet (fail)
                go_wp2
                go_roundg (k - (i + 1))
                case rel => exact ⟨i + 1, j, _, rfl, by omega, rfl, by go_num, by omega, HSB'.out, rfl⟩
                case measure => omega
            · have hjj : j = q := by omega
              subst hjj
              have r3 := sound_any [(⟨0, 1, [100, 105, 118], S, []⟩ : It).z] (some ⟨g, 0, none⟩) 1 ic rfl (by decide) HZS.out (w2.drewN mm) (HI.out.kept ((Kept.refl _ w2).drewN mm)).z
              rw [HSO.out] at r3
              have c4' := c4
              clear c4
              go_wp2_with fail
              refine r3.mono ?_
              rintro e w3 ⟨rfl, k3⟩
              have HK3 : Hid (Kept (fun x => x < w.heap.size) w w3) := (HK2.out.drewN mm).trans (k3.mono fun x hx => Nat.lt_of_lt_of_le hx (by simpa using HK2.out.size))
              clear r3 k3 c4'
              go_wp2
              go_ret
              exact ⟨rfl, HK3.out⟩
          · have hik' : i = k := by omega
            have hjj : j = q := by
              have := HSB.out
              rw [hik', ← HL.out] at this
              have := greedy_end this
              rw [HQ.out] at this
              omega
            subst hik'
            subst hjj
            have r3 := sound_any [(⟨0, 1, [100, 105, 118], S, []⟩ : It).z] (some ⟨g, 0, none⟩) 1 ic rfl (by decide) HZS.out (w2.drewN mm) (HI.out.kept ((Kept.refl _ w2).drewN mm)).z
            rw [HSO.out] at r3
            have c4' := c4
            clear c4
            go_wp2_with fail
            refine r3.mono ?_
            rintro e w3 ⟨rfl, k3⟩
            have HK3 : Hid (Kept (fun x => x < w.heap.size) w w3) := (HK2.out.drewN mm).trans (k3.mono fun x hx => Nat.lt_of_lt_of_le hx (by simpa using HK2.out.size))
            clear r3 k3 c4'
            go_wp2
            go_ret
            exact ⟨rfl, HK3.out⟩
      · have hg5 : decide ((s : Int) > 5000) = true := decide_eq_true (by omega)
        go_wp2_with fail
        refine rk.mono ?_
        rintro e w1 ⟨rfl, k1⟩
        have k2 : Kept (fun k => k < w.heap.size) w w1 := ((Kept.refl _ w).drewN m).trans (k1.mono fun x hx => by simpa using hx)
        clear rk k1
        go_wp2
        go_ret
        exact ⟨rfl, k2⟩

theorem attrs_any (l : List Atr) (aa : Option Addr) (n ac : Nat) (hln : l.length = n) (hn : n ≤ 9223372036854775807) (hsz : ∀ x ∈ l, x.name.length ≤ 140737488355328 ∧ x.value.length ≤ 140737488355328) (w : World) (ha : AtsIn (fun k => k < w.heap.size) w aa l) :
    Calls Try.prog 5 #[.slice aa n ac] w fun e w' => e = .returned (.bool true) ∧ Kept (fun k => k < w.heap.size) w w' := by
  by_cases h : n ≤ 40
  · exact attrs_few l aa n ac hln h hsz w ha
  · exact attrs_many l aa n ac hln h hn w ha
end Go.Proofs.Ytffllhohlfblnaa
