/-
  The document's own put, next.
  The document's own next, fits.
-/
import Derived.Test.YthhoicmfmfeehaaGreatZ24
namespace Go.Proofs.YthhoicmfmfeehaaGreat
open Go.RowKit Go.Sort
set_option linter.unusedVariables false
/-- The rows ahead of which one stands, put in. -/
def insF (l : List Nat) (i : Nat) (bef : Int) : List Nat := l.flatMap fun (k : Nat) => if (k : Int) = bef then [i, k] else [k]
def insW (l : List Nat) (i : Nat) (bef : Int) : List Nat := if bef < 0 then insF l i bef ++ [i] else insF l i bef
theorem insF_snoc (l : List Nat) (x i : Nat) (bef : Int) : insF (l ++ [x]) i bef = insF l i bef ++ (if (x : Int) = bef then [i, x] else [x]) := by
  unfold insF
  rw [List.flatMap_append]
  simp
theorem insF_len (l : List Nat) (i : Nat) (bef : Int) : (insF l i bef).length ≤ 2 * l.length := by
  unfold insF
  induction l with
  | nil => exact Nat.le_refl _
  | cons x r ih =>
    rw [List.flatMap_cons, List.length_append, List.length_cons]
    have : (if (x : Int) = bef then [i, x] else [x]).length ≤ 2 := by split <;> simp
    omega
def rPutM (M : Dm) (up i : Nat) : Dm := (rOutM M i).setP (updL (rOutM M i).pl i { (rOutM M i).pl i with up := (up : Int) })
def rPutR (M : Dm) (R : Nat → List Nat) (up i : Nat) (bef : Int) : Nat → List Nat := updR (rOutR M R i) up (insW (rOutR M R i up) i bef)
theorem rOutR_len {M : Dm} {R : Nat → List Nat} {i : Nat} {n b : Nat} (h : ∀ u, u < n → (R u).length ≤ b) : ∀ u, u < n → (rOutR M R i u).length ≤ b := by
  intro u hu
  unfold rOutR
  by_cases c : (M.pl i).up = -1
  · rw [if_pos c]; exact h u hu
  · rw [if_neg c]
    by_cases c2 : u = (M.pl i).up.toNat
    · rw [c2, updR_same]
      rw [c2] at hu
      have h1 := h _ hu
      have h2 := wo_len (R (M.pl i).up.toNat) (i : Int)
      omega
    · rw [updR_ne _ _ c2]; exact h u hu
set_option maxRecDepth 20000 in
set_option maxHeartbeats 4000000 in
theorem rput_any (K : Nat → Prop) (p up i : Nat) (bef : Int) (M : Dm) (R G : Nat → List Nat) (w : World) (h : RX K w p M R G) (hu : up < M.n) (hi : i < M.n) (hn : M.n ≤ 1000000) (hup : (M.pl i).up = -1 ∨ ∃ u : Nat, u < M.n ∧ (M.pl i).up = (u : Int)) (hrl : ∀ u, u < M.n → (R u).length ≤ 1000000) (hbb : -1 ≤ bef) (hbb2 : bef ≤ 1000000000) :
    Calls Tryz.prog 83 #[.pointer (some ⟨p, 0, none⟩), .int .i64 (up : Int), .int .i64 (i : Int), .int .i64 bef] w fun e w' => e = .returned (.tuple #[]) ∧ RX K w' p (rPutM M up i) (rPutR M R up i bef) G ∧ Kept K w w' := by
  have ro := rout_any K p i M R G w h hi hn hup hrl
  have HRL : Hid (∀ u, u < M.n → (rOutR M R i u).length ≤ 1000000) := rOutR_len hrl
  clear h hrl hup
  go_enter Tryz.func83, Tryz.ntmps83
  go_wp2_with fail
  refine ro.mono ?_
  rintro e w1 ⟨rfl, ⟨A, hY⟩, hK1⟩
  have hn1 : (rOutM M i).n = M.n := rfl
  obtain ⟨g, hg, -, -, hgl⟩ := hY.nat (by rw [hn1]; omega)
  have c1 := hY.c1
  rw [hg] at c1
  have c1' : w1.cell? ⟨p, 1, none⟩ = some (.slice (some ⟨g, 0, none⟩) M.n A.nc) := c1
  have hu1 : up < (rOutM M i).n := hu
  have u5 : w1.cell? ⟨g, up * 14 + 5, none⟩ = some (.slice (A.ka up) (rOutR M R i up).length (A.kc up)) := hY.cell hg hu1 5 _ rfl
  have hka := (hY.kid up hu1).to (F' := fun k => k < w1.heap.size) (w' := w1) (fun g hg => hg.1) (fun _ _ => rfl)
  have hlb := HRL.out up hu
  obtain ⟨ka, hkae⟩ : ∃ ka, A.ka up = ka := ⟨_, rfl⟩
  obtain ⟨kc, hkce⟩ : ∃ kc, A.kc up = kc := ⟨_, rfl⟩
  obtain ⟨l, hle⟩ : ∃ l, rOutR M R i up = l := ⟨_, rfl⟩
  obtain ⟨ln, hlne⟩ : ∃ ln, l.length = ln := ⟨_, rfl⟩
  rw [hkae, hkce, hle, hlne] at u5
  rw [hle, hlne] at hlb
  rw [hkae, hle] at hka
  have HY : Hid (RY K w1 p (rOutM M i) (rOutR M R i) G A) := hY
  have HA : Hid (IntsAt (fun k => k < w1.heap.size) w1 ka l) := hka
  have HL : Hid (l.length = ln) := hlne
  have HLE : Hid (rOutR M R i up = l) := hle
  have HK1 : Hid (Kept K w w1) := hK1
  have HG : Hid (A.na = some ⟨g, 0, none⟩) := hg
  clear ro hY hK1 hka hkae hkce hle hlne c1 HRL hg
  go_upto_region 4 with fail
  go_loopg [8, 10] ln (fun gh v8 v10 wr => ∃ (j : Nat) (ao : Option Addr) (c : Nat) (m : List Nat), gh = ln - j ∧ j ≤ ln ∧ v10 = .int .i64 (j : Int) ∧ m = insF (l.take j) i bef ∧ v8 = .slice ao m.length c ∧ OwnZ (fun k => k < w1.heap.size) wr 3 1 ao m.length c (ivs m) ∧ Kept (fun k => k < w1.heap.size) w1 wr)
  case atStart => exact ⟨0, none, 0, [], rfl, Nat.zero_le _, rfl, rfl, rfl, OwnZ.nil _ _ _ _, Kept.refl _ _⟩
  case round =>
    obtain ⟨j, ao, c, m, hgj, hj, rfl, hm, rfl, hO, hK⟩ := hrel
    have HO : Hid (OwnZ (fun k => k < w1.heap.size) wr 3 1 ao m.length c (ivs m)) := hO
    have HK : Hid (Kept (fun k => k < w1.heap.size) w1 wr) := hK
    have hml : m.length ≤ 2 * j := by
      rw [hm]
      have h1 := insF_len (l.take j) i bef
      rw [List.length_take] at h1
      omega
    by_cases hlt : j < ln
    · have hl : j < l.length := by rw [HL.out]; exact hlt
      obtain ⟨g1, o1, rfl, hg1, hc⟩ := HA.out j hl
      have d : wr.cell? ⟨g1, o1 + j, none⟩ = some (.int .i64 (l[j] : Int)) := (hK.cell (p := ⟨g1, o1 + j, none⟩) hg1).trans hc
      have htk : l.take (j + 1) = l.take j ++ [l[j]] := List.take_succ_eq_append_getElem hl
      obtain ⟨y, hy⟩ : ∃ y, l[j] = y := ⟨_, rfl⟩
      rw [hy] at d htk
      have HM : Hid (m = insF (l.take j) i bef) := hm
      have HT : Hid (l.take (j + 1) = l.take j ++ [y]) := htk
      by_cases hxy : (y : Int) = bef
      · subst hxy
        obtain ⟨ao', c', w', hr', hO', hK'⟩ := appI hO (fun k hk => Nat.lt_of_lt_of_le hk hK.size) (by omega) (i : Int)
        have d' : w'.cell? ⟨g1, o1 + j, none⟩ = some (.int .i64 (y : Int)) := (hK'.cell (p := ⟨g1, o1 + j, none⟩) hg1).trans d
        obtain ⟨ao2, c2, w2, hr2, hO2, hK2⟩ := appI hO' (fun k hk => Nat.lt_of_lt_of_le hk (Nat.le_trans hK.size hK'.size)) (by omega) (y : Int)
        have HM2 : Hid ((m ++ [i]) ++ [y] = insF (l.take (j + 1)) i (y : Int)) := by
          have : (m ++ [i]) ++ [y] = insF (l.take (j + 1)) i (y : Int) := by rw [HT.out, insF_snoc, if_pos rfl, HM.out, List.append_assoc]; rfl
          exact (show Hid _ from this)
        have HO2 : Hid (OwnZ (fun k => k < w1.heap.size) w2 3 1 ao2 ((m ++ [i]) ++ [y]).length c2 (ivs ((m ++ [i]) ++ [y]))) := by
          have : OwnZ (fun k => k < w1.heap.size) w2 3 1 ao2 ((m ++ [i]) ++ [y]).length c2 (ivs ((m ++ [i]) ++ [y])) := by
            rw [ivs, List.map_append, List.map_append, List.length_append, List.length_append]; exact hO2
          exact (show Hid _ from this)
        have HK2 : Hid (Kept (fun k => k < w1.heap.size) w1 w2) := (HK.out.trans hK').trans hK2
        obtain ⟨ml, hml2⟩ : ∃ ml, m.length = ml := ⟨_, rfl⟩
        have HML : Hid (m.length = ml) := hml2
        rw [hml2] at hr' hr2 hml ⊢
        clear hO hK hc hm htk hy hO' hK' hml2 hO2 hK2
        go_wp2_with (first | (at_builtin; refine wpList_appR (w' := w') rfl (.tmp 34) (.tmp 36) 33 33 rfl _ _ (.slice ao' (ml + 1) c') rfl rfl hr' ?_) | (at_builtin; refine wpList_appR (w' := w2) rfl (.tmp 38) (.tmp 43) 33 33 rfl _ _ (.slice ao2 (ml + 1 + 1) c2) rfl rfl hr2 ?_))
        go_roundg (ln - (j + 1))
        case rel => exact ⟨j + 1, ao2, c2, (m ++ [i]) ++ [y], rfl, by omega, by go_num, HM2.out, by rw [List.length_append, List.length_append, HML.out]; rfl, HO2.out, HK2.out⟩
        case measure => omega
      · have e1 : ((y : Int) == bef) = false := by simpa using hxy
        obtain ⟨ao2, c2, w2, hr2, hO2, hK2⟩ := appI hO (fun k hk => Nat.lt_of_lt_of_le hk hK.size) (by omega) (y : Int)
        have HM2 : Hid (m ++ [y] = insF (l.take (j + 1)) i bef) := by
          have : m ++ [y] = insF (l.take (j + 1)) i bef := by rw [HT.out, insF_snoc, if_neg hxy, HM.out]
          exact (show Hid _ from this)
        have HO2 : Hid (OwnZ (fun k => k < w1.heap.size) w2 3 1 ao2 (m ++ [y]).length c2 (ivs (m ++ [y]))) := by
          have : OwnZ (fun k => k < w1.heap.size) w2 3 1 ao2 (m ++ [y]).length c2 (ivs (m ++ [y])) := by
            rw [ivs, List.map_append, List.length_append]; exact hO2
          exact (show Hid _ from this)
        have HK2 : Hid (Kept (fun k => k < w1.heap.size) w1 w2) := HK.out.trans hK2
        obtain ⟨ml, hml2⟩ : ∃ ml, m.length = ml := ⟨_, rfl⟩
        have HML : Hid (m.length = ml) := hml2
        rw [hml2] at hr2 hml ⊢
        clear hO hK hc hm htk hy hml2 hO2 hK2
        go_wp2_with (at_builtin; refine wpList_appR (w' := w2) rfl (.tmp 38) (.tmp 43) 33 33 rfl _ _ (.slice ao2 (ml + 1) c2) rfl rfl hr2 ?_)
        go_roundg (ln - (j + 1))
        case rel => exact ⟨j + 1, ao2, c2, m ++ [y], rfl, by omega, by go_num, HM2.out, by rw [List.length_append, HML.out]; rfl, HO2.out, HK2.out⟩
        case measure => omega
    · have hjn : ln = j := by omega
      subst hjn
      have hm2 : m = insF l i bef := by rw [hm, List.take_of_length_le (by rw [HL.out]; exact Nat.le_refl _)]
      -- what is stored, whatever the row is
      have fin : ∀ (V : World) (ao2 : Option Addr) (c2 : Nat) (m2 : List Nat), m2 = insW l i bef → OwnZ (fun k => k < w1.heap.size) V 3 1 ao2 m2.length c2 (ivs m2) → Kept (fun k => k < w1.heap.size) w1 V →
          V.cell? ⟨p, 1, none⟩ = some (.slice (some ⟨g, 0, none⟩) M.n A.nc) ∧ (∃ u, V.cell? ⟨g, up * 14 + 5, none⟩ = some u) ∧ V.frozen? ⟨g, up * 14 + 5, none⟩ = false ∧
          ∃ V2, V2 = V.setCell ⟨g, up * 14 + 5, none⟩ (.slice ao2 m2.length c2) ∧ V2.cell? ⟨p, 1, none⟩ = some (.slice (some ⟨g, 0, none⟩) M.n A.nc) ∧ (∃ u, V2.cell? ⟨g, i * 14 + 4, none⟩ = some u) ∧ V2.frozen? ⟨g, i * 14 + 4, none⟩ = false ∧
            RX K (V2.setCell ⟨g, i * 14 + 4, none⟩ (.int .i64 (up : Int))) p (rPutM M up i) (rPutR M R up i bef) G ∧ Kept K w (V2.setCell ⟨g, i * 14 + 4, none⟩ (.int .i64 (up : Int))) := by
        intro V ao2 c2 m2 hm2 hOV hKV
        have hYV := HY.out.kept hKV
        have hOl : IntsAt (fun x => w1.heap.size ≤ x ∧ x < V.heap.size) V ao2 m2 := hOV.intsAt fun x hx => ⟨Nat.le_of_not_lt (OwnZ.out hOV hx).1, (OwnZ.out hOV hx).2⟩
        have hg' := HG.out
        obtain ⟨hY4, hK4⟩ := HY.out.setKids hKV hg' hu1 m2 ao2 c2 hOl hOV.2.1
        have hg4 : (A.setK up ao2 c2).na = some ⟨g, 0, none⟩ := hg'
        have hi4 : i < (rOutM M i).n := hi
        obtain ⟨hY5, hK5⟩ := hY4.setUp hg4 hi4 (up : Int)
        have q1 := hYV.c1
        rw [hg'] at q1
        have q4 := hY4.c1
        rw [hg4] at q4
        have r1 : V.cell? ⟨g, up * 14 + 5, none⟩ = some (.slice (A.ka up) (rOutR M R i up).length (A.kc up)) := hYV.cell hg' hu1 5 _ rfl
        have r2 : V.frozen? ⟨g, up * 14 + 5, none⟩ = false := hYV.fg hg' _
        have r3 : (V.setCell ⟨g, up * 14 + 5, none⟩ (.slice ao2 m2.length c2)).cell? ⟨g, i * 14 + 4, none⟩ = some (.int .i64 ((rOutM M i).pl i).up) := hY4.cell hg4 hi4 4 _ rfl
        have r4 : (V.setCell ⟨g, up * 14 + 5, none⟩ (.slice ao2 m2.length c2)).frozen? ⟨g, i * 14 + 4, none⟩ = false := hY4.fg hg4 _
        have r5 : RX K ((V.setCell ⟨g, up * 14 + 5, none⟩ (.slice ao2 m2.length c2)).setCell ⟨g, i * 14 + 4, none⟩ (.int .i64 (up : Int))) p (rPutM M up i) (rPutR M R up i bef) G := by
          refine ⟨A.setK up ao2 c2, ?_⟩
          unfold rPutR
          rw [HLE.out, ← hm2]
          exact hY5
        have r6 : Kept K w V := HK1.out.trans (hKV.mono HY.out.lt)
        exact ⟨q1, ⟨_, r1⟩, r2, _, rfl, q4, ⟨_, r3⟩, r4, r5, (r6.trans hK4).trans hK5⟩
      by_cases hneg : bef < 0
      · have e1 : decide (bef < 0) = true := decide_eq_true hneg
        obtain ⟨ao2, c2, w2, hr2, hO2, hK2⟩ := appI hO (fun k hk => Nat.lt_of_lt_of_le hk hK.size) (by omega) (i : Int)
        have hO2' : OwnZ (fun k => k < w1.heap.size) w2 3 1 ao2 (m ++ [i]).length c2 (ivs (m ++ [i])) := by
          rw [ivs, List.map_append, List.length_append]; exact hO2
        obtain ⟨q1, ⟨u2, q2⟩, q3, V2, hV2, q4, ⟨u5, q5⟩, q6, q7, q8⟩ := fin w2 ao2 c2 (m ++ [i]) (by rw [hm2]; unfold insW; rw [if_pos hneg]) hO2' (hK.trans hK2)
        have elen : (m ++ [i]).length = m.length + 1 := by rw [List.length_append]; rfl
        rw [elen] at hV2
        obtain ⟨ml, hml2⟩ : ∃ ml, m.length = ml := ⟨_, rfl⟩
        rw [hml2] at hr2 hV2 ⊢
        have HV2 : Hid (V2 = w2.setCell ⟨g, up * 14 + 5, none⟩ (.slice ao2 (ml + 1) c2)) := hV2
        have HX : Hid (RX K (V2.setCell ⟨g, i * 14 + 4, none⟩ (.int .i64 (up : Int))) p (rPutM M up i) (rPutR M R up i bef) G ∧ Kept K w (V2.setCell ⟨g, i * 14 + 4, none⟩ (.int .i64 (up : Int)))) := ⟨q7, q8⟩
        clear hO hK hm hm2 fin hO2 hK2 hO2' hV2 elen hml2 q7 q8
        go_upto_region 12 with (at_builtin; refine wpList_appR (w' := w2) rfl (.tmp 47) (.tmp 49) 33 33 rfl _ _ (.slice ao2 (ml + 1) c2) rfl rfl hr2 ?_)
        rw [← HV2.out]
        go_wp2
        go_end0
        exact ⟨rfl, HX.out.1, HX.out.2⟩
      · have e1 : decide (bef < 0) = false := decide_eq_false hneg
        obtain ⟨q1, ⟨u2, q2⟩, q3, V2, hV2, q4, ⟨u5, q5⟩, q6, q7, q8⟩ := fin wr ao c m (by rw [hm2]; unfold insW; rw [if_neg hneg]) hO hK
        obtain ⟨ml, hml2⟩ : ∃ ml, m.length = ml := ⟨_, rfl⟩
        rw [hml2] at hV2 ⊢
        have HV2 : Hid (V2 = wr.setCell ⟨g, up * 14 + 5, none⟩ (.slice ao ml c)) := hV2
        have HX : Hid (RX K (V2.setCell ⟨g, i * 14 + 4, none⟩ (.int .i64 (up : Int))) p (rPutM M up i) (rPutR M R up i bef) G ∧ Kept K w (V2.setCell ⟨g, i * 14 + 4, none⟩ (.int .i64 (up : Int)))) := ⟨q7, q8⟩
        clear hO hK hm hm2 fin hV2 hml2 q7 q8
        go_upto_region 12 with fail
        rw [← HV2.out]
        go_wp2
        go_end0
        exact ⟨rfl, HX.out.1, HX.out.2⟩
end Go.Proofs.YthhoicmfmfeehaaGreat

namespace Go.Proofs.YthhoicmfmfeehaaGreat
open Go.RowKit Go.Sort
set_option linter.unusedVariables false
set_option maxRecDepth 20000 in
set_option maxHeartbeats 2000000 in
theorem rnext_any (K : Nat → Prop) (p i u : Nat) (M : Dm) (R G : Nat → List Nat) (w : World) (h : RX K w p M R G) (hi : i < M.n) (hu : u < M.n) (hup : (M.pl i).up = (u : Int)) (hn : M.n ≤ 1000000) (a b : List Nat) (hR : R u = a ++ i :: b) (hia : i ∉ a) (hln : (R u).length ≤ 1000000) :
    Calls Tryz.prog 84 #[.pointer (some ⟨p, 0, none⟩), .int .i64 (i : Int)] w fun e w' => e = .returned (.int .i64 (hdD b (-1))) ∧ Kept (fun k => k < w.heap.size) w w' := by
  obtain ⟨A, hY⟩ := h
  obtain ⟨g, hg, -, -, hgl⟩ := hY.nat (by omega)
  have c1 := hY.c1
  rw [hg] at c1
  have c4 : w.cell? ⟨g, i * 14 + 4, none⟩ = some (.int .i64 (u : Int)) := by rw [← hup]; exact hY.cell hg hi 4 _ rfl
  have u5 : w.cell? ⟨g, u * 14 + 5, none⟩ = some (.slice (A.ka u) (R u).length (A.kc u)) := hY.cell hg hu 5 _ rfl
  have hka := hY.kid u hu
  obtain ⟨ka, hkae⟩ : ∃ ka, A.ka u = ka := ⟨_, rfl⟩
  obtain ⟨kc, hkce⟩ : ∃ kc, A.kc u = kc := ⟨_, rfl⟩
  obtain ⟨l, hle⟩ : ∃ l, R u = l := ⟨_, rfl⟩
  obtain ⟨ln, hlne⟩ : ∃ ln, l.length = ln := ⟨_, rfl⟩
  rw [hkae, hkce, hle, hlne] at u5
  rw [hle, hlne] at hln
  rw [hkae, hle] at hka
  rw [hle] at hR
  have HA : Hid (IntsAt (fun x => x < w.heap.size ∧ ¬ A.bad K p M.n x) w ka l) := hka
  have HL : Hid (l.length = ln) := hlne
  have HR : Hid (l = a ++ i :: b) := hR
  have hla : ln = a.length + 1 + b.length := by rw [← hlne, hR, List.length_append, List.length_cons]; omega
  have HIA : Hid (i ∉ a) := hia
  obtain ⟨la, hlae⟩ : ∃ la, a.length = la := ⟨_, rfl⟩
  have HLA : Hid (a.length = la) := hlae
  have HLN : Hid (ln = la + 1 + b.length) := by rw [hlae] at hla; exact (show Hid _ from hla)
  have hlt0 : la < ln := by rw [hlae] at hla; omega
  clear hY hg hka hkae hkce hle hlne hR hia hup hla hlae
  go_enter Tryz.func84, Tryz.ntmps84
  go_upto_region 1 with fail
  go_quiet (fail)
  go_upto_region 3 with fail
  go_loopg [6] ln (fun gh v wr => ∃ j : Nat, gh = ln - j ∧ j ≤ la ∧ v = .int .i64 (j : Int) ∧ wr = w.drewN nq)
  case atStart => exact ⟨0, rfl, Nat.zero_le _, rfl, rfl⟩
  case round =>
    obtain ⟨j, hgj, hj, rfl, rfl⟩ := hrel
    have hjl : j < l.length := by rw [HL.out]; omega
    obtain ⟨g1, o1, rfl, -, hc⟩ := HA.out j hjl
    have d : (w.drewN nq).cell? ⟨g1, o1 + j, none⟩ = some (.int .i64 (l[j] : Int)) := hc
    by_cases hlt : j < la
    · have hne : l[j] ≠ i := by
        have e1 : l[j]? = a[j]? := by rw [HR.out, List.getElem?_append_left (by rw [HLA.out]; exact hlt)]
        rw [List.getElem?_eq_getElem hjl, List.getElem?_eq_getElem (by rw [HLA.out]; exact hlt)] at e1
        injection e1 with e1
        rw [e1]
        intro e
        exact HIA.out (e ▸ List.getElem_mem _)
      obtain ⟨y, hy⟩ : ∃ y, l[j] = y := ⟨_, rfl⟩
      rw [hy] at d hne
      have e1 : ((y : Int) == (i : Int)) = false := by simp; omega
      have e2 : decide ((j : Int) + 1 < (ln : Int)) = true := decide_eq_true (by omega)
      clear hc hy
      go_wp2
      go_roundg (ln - (j + 1))
      case rel => exact ⟨j + 1, rfl, by omega, by go_num, rfl⟩
      case measure => omega
    · have hjla : j = la := by omega
      subst hjla
      have e1 : l[j]? = some i := by rw [HR.out, List.getElem?_append_right (by rw [HLA.out]; exact Nat.le_refl _), HLA.out, Nat.sub_self]; rfl
      rw [List.getElem?_eq_getElem hjl] at e1
      injection e1 with e1
      rw [e1] at d
      cases b with
      | nil =>
        have hln1 : ln = j + 1 := by have := HLN.out; simpa using this
        have e2 : decide ((j : Int) + 1 < (ln : Int)) = false := decide_eq_false (by omega)
        clear hc hln1
        go_wp2
        go_ret
        exact ⟨rfl, (Kept.refl _ w).drewN nq⟩
      | cons y r =>
        have hln1 : j + 1 < ln := by have := HLN.out; simp at this; omega
        have e2 : decide ((j : Int) + 1 < (ln : Int)) = true := decide_eq_true (by omega)
        have hjl2 : j + 1 < l.length := by rw [HL.out]; exact hln1
        obtain ⟨g2, o2, e3, -, hc2⟩ := HA.out (j + 1) hjl2
        injection e3 with e3
        injection e3 with e4 e5
        subst e4 e5
        have e6 : l[j + 1]? = some y := by rw [HR.out, List.getElem?_append_right (by rw [HLA.out]; omega), HLA.out, show j + 1 - j = 1 by omega]; rfl
        rw [List.getElem?_eq_getElem hjl2] at e6
        injection e6 with e6
        rw [e6] at hc2
        have d2 : (w.drewN nq).cell? ⟨g1, o1 + (j + 1), none⟩ = some (.int .i64 (y : Int)) := hc2
        clear hc hc2 e1 e6
        go_wp2
        go_ret
        exact ⟨rfl, (Kept.refl _ w).drewN nq⟩
/-- May a node be put into another one? As the document's own says it. -/
def RFits (M : Dm) (up i : Nat) : Prop := holdB (M.nd up) = true ∧ i ≠ 0 ∧ (M.nd i).host < 0 ∧ ¬ Wi M i up
end Go.Proofs.YthhoicmfmfeehaaGreat
