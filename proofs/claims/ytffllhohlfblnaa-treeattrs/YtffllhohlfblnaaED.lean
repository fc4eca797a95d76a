/-
  WHAT tree.Sound ANSWERS: the attributes, one item, all items.
-/
import Derived.Test.YtffllhohlfblnaaEB
namespace Go.Proofs.Ytffllhohlfblnaa
open Go.RowKit Go.Sort

/-- All of them may be written; 'ahead': the names that stood ahead. -/
def allW : List (List UInt8) → List Atr → Bool
  | _, [] => true
  | ahead, a :: r => (writP a && !ahead.contains a.name) && allW (a.name :: ahead) r
def soundA (l : List Atr) : Bool := decide (l.length ≤ 50) && allW [] l

set_option maxRecDepth 20000 in
set_option maxHeartbeats 1000000 in
theorem soundAttrs_any (l : List Atr) (aa : Option Addr) (n ac : Nat) (hln : l.length = n) (hn : n ≤ 100000000) (hsz : ∀ x ∈ l, x.name.length ≤ 1000000000 ∧ x.value.length ≤ 1000000000) (w : World) (ha : AtsIn (fun k => k < w.heap.size) w aa l) :
    Calls Try.prog 44 #[.slice aa n ac] w fun e w' => e = .returned (.bool (soundA l)) ∧ Kept (fun k => k < w.heap.size) w w' := by
  by_cases h50 : n ≤ 50
  · have hg : decide ((n : Int) > 50) = false := decide_eq_false (by omega)
    have es : soundA l = allW [] l := by
      unfold soundA
      rw [hln, decide_eq_true h50]
      rfl
    rw [es]
    obtain ⟨R, hR⟩ : ∃ R, allW [] l = R := ⟨_, rfl⟩
    rw [hR]
    have HR : Hid (allW (aheadL l 0) (l.drop 0) = R) := hR
    have HL : Hid (l.length = n) := hln
    have HA : Hid (AtsIn (fun k => k < w.heap.size) w aa l) := ha
    have HSZ : Hid (∀ x ∈ l, x.name.length ≤ 1000000000 ∧ x.value.length ≤ 1000000000) := hsz
    have r := writables_any w
    clear es hR hln ha hsz
    go_enter Try.func44, Try.ntmps44
    go_wp2_with fail
    refine r.mono ?_
    rintro e w1 ⟨b, mb, rfl, hX1, hK1, hb1, hmb1⟩
    have HX1 : Hid (WrX w1 b mb 0 (aheadL l 0)) := hX1
    have HK1 : Hid (Kept (fun k => k < w.heap.size) w w1) := hK1
    clear r hX1 hK1
    go_upto_region 5 with fail
    go_loopg [12] n (fun g v wr => ∃ k : Nat, g = n - k ∧ k ≤ n ∧ v = .int .i64 k ∧ allW (aheadL l k) (l.drop k) = R ∧ WrX wr b mb k (aheadL l k) ∧ Kept (fun k => k < w.heap.size) w wr)
    case atStart => exact ⟨0, rfl, Nat.zero_le _, rfl, HR.out, HX1.out, HK1.out⟩
    case round =>
      clear HR HX1 HK1
      obtain ⟨k, hgk, hk, rfl, hRk, hXk, hKk⟩ := hrel
      have HX : Hid (WrX wr b mb k (aheadL l k)) := hXk
      have HK : Hid (Kept (fun k => k < w.heap.size) w wr) := hKk
      clear hXk hKk
      by_cases hlt : k < n
      · have hl : k < l.length := by rw [HL.out]; exact hlt
        obtain ⟨g, o, hg', hKg, c0, c1⟩ := HA.out k hl
        have d0 : wr.cell? ⟨g, o + k * 2, none⟩ = some (sv l[k].name) := by rw [HK.out.cell (p := ⟨g, o + k * 2, none⟩) hKg]; exact c0
        have d1 : wr.cell? ⟨g, o + k * 2 + 1, none⟩ = some (sv l[k].value) := by rw [HK.out.cell (p := ⟨g, o + k * 2 + 1, none⟩) hKg]; exact c1
        subst hg'
        rw [List.drop_eq_getElem_cons hl] at hRk
        have hRk' : ((writP l[k] && !(aheadL l k).contains l[k].name) && allW (l[k].name :: aheadL l k) (l.drop (k + 1))) = R := hRk
        rw [← aheadL_succ l k hl] at hRk'
        obtain ⟨V, hV⟩ : ∃ V, wr.alloc (.cells #[sv l[k].name, sv l[k].value] 41) = V := ⟨_, rfl⟩
        have kV : Kept (fun x => x < wr.heap.size) wr V := by rw [← hV]; exact (Kept.refl _ wr).alloc (fun _ h => h) _
        have hWr : WrX V b mb k (aheadL l k) := HX.out.kept kV HX.out.1 HX.out.2.2.2.lt
        have hmem := HSZ.out l[k] (List.getElem_mem hl)
        have hal := aheadL_len l k
        have hlle : l.length ≤ 50 := by rw [HL.out]; exact h50
        have r := writ1_any ⟨l[k].name.toArray⟩ ⟨l[k].value.toArray⟩ b mb k (aheadL l k) V hWr (by omega) (by omega) (by rw [sv_size]; exact hmem.1) (by rw [sv_size]; exact hmem.2)
        have eN : ByteArray.toList ⟨l[k].name.toArray⟩ = l[k].name := by rw [ByteArray.toList_eq]
        have eV : ByteArray.toList ⟨l[k].value.toArray⟩ = l[k].value := by rw [ByteArray.toList_eq]
        rw [eN, eV, ← aheadL_succ l k hl] at r
        obtain ⟨q, hq⟩ : ∃ q, (writP l[k] && !(aheadL l k).contains l[k].name) = q := ⟨_, rfl⟩
        have hq' : (writP ⟨l[k].name, l[k].value⟩ && !(aheadL l k).contains l[k].name) = q := hq
        rw [hq'] at r
        rw [hq] at hRk'
        have HR' : Hid ((q && allW (aheadL l (k + 1)) (l.drop (k + 1))) = R) := hRk'
        have HV : Hid (wr.alloc (.cells #[sv l[k].name, sv l[k].value] 41) = V) := hV
        have HKV : Hid (Kept (fun k => k < w.heap.size) w V) := HK.out.trans (kV.mono fun k h => Nat.lt_of_lt_of_le h HK.out.size)
        have hmbw : w.heap.size ≤ mb := hmb1
        clear hRk hRk' hWr hmem hal eN eV hq hq' hV kV c0 c1 hKg hlle
        go_wp2_with fail
        have hv : wr.alloc (.cells #[.string ⟨l[k].name.toArray⟩, .string ⟨l[k].value.toArray⟩] 41) = V := HV.out
        rw [hv]
        refine r.mono ?_
        rintro e w2 ⟨rfl, hX2, hK2⟩
        have HX2 : Hid (WrX w2 b mb (k + 1) (aheadL l (k + 1))) := hX2
        have HK2 : Hid (Kept (fun k => k < w.heap.size) w w2) := HKV.out.trans (hK2.mono fun x (hx : x < w.heap.size) => ⟨Nat.lt_of_lt_of_le hx HKV.out.size, by omega⟩)
        clear r hv hX2 hK2 HV HKV HX HK d0 d1
        cases q with
        | false =>
          have hR : R = false := HR'.out.symm
          subst hR
          clear HR'
          go_wp2
          go_ret
          exact ⟨rfl, HK2.out⟩
        | true =>
          have hR := HR'.out
          rw [Bool.true_and] at hR
          have HR2 : Hid (allW (aheadL l (k + 1)) (l.drop (k + 1)) = R) := hR
          clear HR' hR
          go_wp2
          go_roundg (n - (k + 1))
          case rel => exact ⟨k + 1, rfl, by omega, by go_num, HR2.out, HX2.out, HK2.out⟩
          case measure => omega
      · have hkk : k = n := by omega
        subst hkk
        have hR : R = true := by
          rw [← hRk, List.drop_eq_nil_of_le (by rw [HL.out]; exact Nat.le_refl _)]
          rfl
        subst hR
        clear hRk
        go_wp2
        go_ret
        exact ⟨rfl, HK.out⟩
  · have hg : decide ((n : Int) > 50) = true := decide_eq_true (by omega)
    have es : soundA l = false := by
      unfold soundA
      rw [hln, decide_eq_false h50]
      rfl
    rw [es]
    have hu := hsz
    clear es hln hu hsz ha
    go_enter Try.func44, Try.ntmps44
    go_wp2
    go_ret
    exact ⟨rfl, Kept.refl _ _⟩

/-- An item whose depth is any number. -/
structure Iz where
  deep : Int
  kind : Nat
  name : List UInt8
  attrs : List Atr
  data : List UInt8
def kindP (x : Iz) (first : Bool) : Bool :=
  if x.kind = 1 then (validP x.name && x.data == []) && soundA x.attrs
  else if x.kind = 2 then (x.name == [] && !(x.data == [])) && decide (x.attrs.length = 0)
  else if x.kind = 3 then x.name == [] && decide (x.attrs.length = 0)
  else if x.kind = 6 then (first && x.data == []) && decide (x.attrs.length = 0)
  else false

set_option maxRecDepth 20000 in
set_option maxHeartbeats 1000000 in
theorem kind1 (d : Int) (S D : ByteArray) (l : List Atr) (aa : Option Addr) (n ac : Nat) (hln : l.length = n) (hn : n ≤ 100000000) (hsz : ∀ x ∈ l, x.name.length ≤ 1000000000 ∧ x.value.length ≤ 1000000000) (first : Bool) (w : World) (ha : AtsIn (fun k => k < w.heap.size) w aa l) :
    Calls Try.prog 26 #[.agg #[.int .i64 d, .int .u8 (1 : Int), .string S, .string D, .slice aa n ac], .bool first] w fun e w' => e = .returned (.bool (kindP ⟨d, 1, S.toList, l, D.toList⟩ first)) ∧ Kept (fun k => k < w.heap.size) w w' := by
  obtain ⟨W, hW⟩ : ∃ W, w.alloc (.cells #[.int .i64 d, .int .u8 (1 : Int), .string S, .string D, .slice aa n ac] 38) = W := ⟨_, rfl⟩
  obtain ⟨N, hN⟩ : ∃ N, w.heap.size = N := ⟨_, rfl⟩
  have kW : Kept (fun k => k < w.heap.size) w W := by rw [← hW]; exact (Kept.refl _ w).alloc (fun _ h => h) _
  have sW : N < W.heap.size := by rw [← hW, ← hN]; simp
  have hcW : ∀ i u, #[.int .i64 d, .int .u8 (1 : Int), .string S, .string D, .slice aa n ac].toList[i]? = some u → W.cell? ⟨N, i, none⟩ = some u := by
    intro i u hi
    rw [← hW, ← hN, cell_block (heap_alloc_new w _), ← Array.getElem?_toList]
    exact hi
  have haW : AtsIn (fun k => k < W.heap.size) W aa l := ha.kept kW fun k h => Nat.lt_of_lt_of_le h kW.size
  have HK : Hid (Kept (fun k => k < w.heap.size) w W) := kW
  have HW : Hid (w.alloc (.cells #[.int .i64 d, .int .u8 (1 : Int), .string S, .string D, .slice aa n ac] 38) = W) := hW
  have HN : Hid (w.heap.size = N) := hN
  have hu := And.intro hn hsz
  clear hu
  have t0 := hcW 0 _ rfl
  have t1 := hcW 1 _ rfl
  have t2 := hcW 2 _ rfl
  have t3 := hcW 3 _ rfl
  have t4 := hcW 4 _ rfl
  have rv := valid_any S (fun k => k < W.heap.size) W (fun _ h => h)
  have ra := fun X (hX : Kept (fun k => k < W.heap.size) W X) => soundAttrs_any l aa n ac hln hn hsz X (haW.kept hX fun k h => Nat.lt_of_lt_of_le h hX.size)
  have ek : kindP ⟨d, 1, S.toList, l, D.toList⟩ first = ((validP S.toList && D.toList == []) && soundA l) := rfl
  rw [ek]
  obtain ⟨v, hv⟩ : ∃ v, validP S.toList = v := ⟨_, rfl⟩
  obtain ⟨e0, he0⟩ : ∃ v, (D.toList == []) = v := ⟨_, rfl⟩
  obtain ⟨sa, hsa⟩ : ∃ v, soundA l = v := ⟨_, rfl⟩
  rw [hv] at rv ⊢
  rw [he0]
  rw [hsa]
  simp only [hsa] at ra
  have hc2 : ∀ X, Kept (fun k => k < W.heap.size) W X → ∀ i u, #[Value.int .i64 d, .int .u8 (1 : Int), .string S, .string D, .slice aa n ac].toList[i]? = some u → X.cell? ⟨N, i, none⟩ = some u := fun X hX i u hi => by
    rw [hX.cell (p := ⟨N, i, none⟩) sW]
    exact hcW i u hi
  have HC2 : Hid (∀ X, Kept (fun k => k < W.heap.size) W X → ∀ i u, #[Value.int .i64 d, .int .u8 (1 : Int), .string S, .string D, .slice aa n ac].toList[i]? = some u → X.cell? ⟨N, i, none⟩ = some u) := hc2
  clear hW hN kW sW hcW haW ha hln hn hsz ek hv hsa hc2
  cases v with
  | false =>
    go_enter Try.func26, Try.ntmps26
    go_upto_region 1 with fail
    rw [HW.out, HN.out]
    clear HW HN
    go_wp2_with fail
    refine rv.mono ?_
    rintro e w1 ⟨rfl, k1⟩
    clear rv ra t0 t1 t2 t3 t4
    go_wp2
    go_ret
    exact ⟨rfl, HK.out.trans (k1.mono fun k h => Nat.lt_of_lt_of_le h HK.out.size)⟩
  | true =>
    cases e0 with
    | false =>
      go_enter Try.func26, Try.ntmps26
      go_upto_region 1 with fail
      rw [HW.out, HN.out]
      clear HW HN
      go_wp2_with fail
      refine rv.mono ?_
      rintro e w1 ⟨rfl, k1⟩
      have m3 := HC2.out w1 k1 3 _ rfl
      clear rv ra t0 t1 t2 t3 t4
      go_wp2
      go_ret
      exact ⟨rfl, HK.out.trans (k1.mono fun k h => Nat.lt_of_lt_of_le h HK.out.size)⟩
    | true =>
      go_enter Try.func26, Try.ntmps26
      go_upto_region 1 with fail
      rw [HW.out, HN.out]
      clear HW HN
      go_wp2_with fail
      refine rv.mono ?_
      rintro e w1 ⟨rfl, k1⟩
      have m3 := HC2.out w1 k1 3 _ rfl
      have m4 := HC2.out w1 k1 4 _ rfl
      have ra1 := ra w1 k1
      have HK1 : Hid (Kept (fun k => k < w.heap.size) w w1) := HK.out.trans (k1.mono fun k h => Nat.lt_of_lt_of_le h HK.out.size)
      clear rv ra k1 t0 t1 t2 t3 t4
      go_wp2_with fail
      refine ra1.mono ?_
      rintro e w2 ⟨rfl, k2⟩
      clear ra1 m3 m4
      go_wp2
      go_ret
      exact ⟨rfl, HK1.out.trans (k2.mono fun k h => Nat.lt_of_lt_of_le h HK1.out.size)⟩

set_option maxRecDepth 20000 in
set_option maxHeartbeats 1000000 in
theorem kind2 (d : Int) (S D : ByteArray) (l : List Atr) (aa : Option Addr) (n ac : Nat) (hln : l.length = n) (hn : n ≤ 100000000) (hsz : ∀ x ∈ l, x.name.length ≤ 1000000000 ∧ x.value.length ≤ 1000000000) (first : Bool) (w : World) (ha : AtsIn (fun k => k < w.heap.size) w aa l) :
    Calls Try.prog 26 #[.agg #[.int .i64 d, .int .u8 (2 : Int), .string S, .string D, .slice aa n ac], .bool first] w fun e w' => e = .returned (.bool (kindP ⟨d, 2, S.toList, l, D.toList⟩ first)) ∧ Kept (fun k => k < w.heap.size) w w' := by
  obtain ⟨W, hW⟩ : ∃ W, w.alloc (.cells #[.int .i64 d, .int .u8 (2 : Int), .string S, .string D, .slice aa n ac] 38) = W := ⟨_, rfl⟩
  obtain ⟨N, hN⟩ : ∃ N, w.heap.size = N := ⟨_, rfl⟩
  have kW : Kept (fun k => k < w.heap.size) w W := by rw [← hW]; exact (Kept.refl _ w).alloc (fun _ h => h) _
  have sW : N < W.heap.size := by rw [← hW, ← hN]; simp
  have hcW : ∀ i u, #[.int .i64 d, .int .u8 (2 : Int), .string S, .string D, .slice aa n ac].toList[i]? = some u → W.cell? ⟨N, i, none⟩ = some u := by
    intro i u hi
    rw [← hW, ← hN, cell_block (heap_alloc_new w _), ← Array.getElem?_toList]
    exact hi
  have haW : AtsIn (fun k => k < W.heap.size) W aa l := ha.kept kW fun k h => Nat.lt_of_lt_of_le h kW.size
  have HK : Hid (Kept (fun k => k < w.heap.size) w W) := kW
  have HW : Hid (w.alloc (.cells #[.int .i64 d, .int .u8 (2 : Int), .string S, .string D, .slice aa n ac] 38) = W) := hW
  have HN : Hid (w.heap.size = N) := hN
  have hu := And.intro hn hsz
  clear hu
  have t0 := hcW 0 _ rfl
  have t1 := hcW 1 _ rfl
  have t2 := hcW 2 _ rfl
  have t3 := hcW 3 _ rfl
  have t4 := hcW 4 _ rfl
  have hu2 := haW
  clear hu2
  have ek : kindP ⟨d, 2, S.toList, l, D.toList⟩ first = ((S.toList == [] && !(D.toList == [])) && decide (l.length = 0)) := rfl
  rw [ek, hln]
  obtain ⟨s0, hs0⟩ : ∃ v, (S.toList == []) = v := ⟨_, rfl⟩
  obtain ⟨e0, he0⟩ : ∃ v, (D.toList == []) = v := ⟨_, rfl⟩
  try rw [hs0]
  try rw [he0]
  clear hW hN kW sW hcW haW ha hln hsz ek
  by_cases h0 : n = 0
  · subst h0
    rw [decide_eq_true rfl]
    cases s0 <;> cases e0 <;> cases first
    all_goals
      go_enter Try.func26, Try.ntmps26
      go_upto_region 1 with fail
      rw [HW.out, HN.out]
      go_wp2
      go_ret
      exact ⟨rfl, HK.out⟩
  · rw [decide_eq_false h0]
    have hz : ((n : Int) == 0) = false := by
      have : (n : Int) ≠ 0 := by omega
      simpa using this
    cases s0 <;> cases e0 <;> cases first
    all_goals
      go_enter Try.func26, Try.ntmps26
      go_upto_region 1 with fail
      rw [HW.out, HN.out]
      go_wp2
      go_ret
      exact ⟨rfl, HK.out⟩

set_option maxRecDepth 20000 in
set_option maxHeartbeats 1000000 in
theorem kind3 (d : Int) (S D : ByteArray) (l : List Atr) (aa : Option Addr) (n ac : Nat) (hln : l.length = n) (hn : n ≤ 100000000) (hsz : ∀ x ∈ l, x.name.length ≤ 1000000000 ∧ x.value.length ≤ 1000000000) (first : Bool) (w : World) (ha : AtsIn (fun k => k < w.heap.size) w aa l) :
    Calls Try.prog 26 #[.agg #[.int .i64 d, .int .u8 (3 : Int), .string S, .string D, .slice aa n ac], .bool first] w fun e w' => e = .returned (.bool (kindP ⟨d, 3, S.toList, l, D.toList⟩ first)) ∧ Kept (fun k => k < w.heap.size) w w' := by
  obtain ⟨W, hW⟩ : ∃ W, w.alloc (.cells #[.int .i64 d, .int .u8 (3 : Int), .string S, .string D, .slice aa n ac] 38) = W := ⟨_, rfl⟩
  obtain ⟨N, hN⟩ : ∃ N, w.heap.size = N := ⟨_, rfl⟩
  have kW : Kept (fun k => k < w.heap.size) w W := by rw [← hW]; exact (Kept.refl _ w).alloc (fun _ h => h) _
  have sW : N < W.heap.size := by rw [← hW, ← hN]; simp
  have hcW : ∀ i u, #[.int .i64 d, .int .u8 (3 : Int), .string S, .string D, .slice aa n ac].toList[i]? = some u → W.cell? ⟨N, i, none⟩ = some u := by
    intro i u hi
    rw [← hW, ← hN, cell_block (heap_alloc_new w _), ← Array.getElem?_toList]
    exact hi
  have haW : AtsIn (fun k => k < W.heap.size) W aa l := ha.kept kW fun k h => Nat.lt_of_lt_of_le h kW.size
  have HK : Hid (Kept (fun k => k < w.heap.size) w W) := kW
  have HW : Hid (w.alloc (.cells #[.int .i64 d, .int .u8 (3 : Int), .string S, .string D, .slice aa n ac] 38) = W) := hW
  have HN : Hid (w.heap.size = N) := hN
  have hu := And.intro hn hsz
  clear hu
  have t0 := hcW 0 _ rfl
  have t1 := hcW 1 _ rfl
  have t2 := hcW 2 _ rfl
  have t3 := hcW 3 _ rfl
  have t4 := hcW 4 _ rfl
  have hu2 := haW
  clear hu2
  have ek : kindP ⟨d, 3, S.toList, l, D.toList⟩ first = (S.toList == [] && decide (l.length = 0)) := rfl
  rw [ek, hln]
  obtain ⟨s0, hs0⟩ : ∃ v, (S.toList == []) = v := ⟨_, rfl⟩
  obtain ⟨e0, he0⟩ : ∃ v, (D.toList == []) = v := ⟨_, rfl⟩
  try rw [hs0]
  try rw [he0]
  clear hW hN kW sW hcW haW ha hln hsz ek
  by_cases h0 : n = 0
  · subst h0
    rw [decide_eq_true rfl]
    cases s0 <;> cases e0 <;> cases first
    all_goals
      go_enter Try.func26, Try.ntmps26
      go_upto_region 1 with fail
      rw [HW.out, HN.out]
      go_wp2
      go_ret
      exact ⟨rfl, HK.out⟩
  · rw [decide_eq_false h0]
    have hz : ((n : Int) == 0) = false := by
      have : (n : Int) ≠ 0 := by omega
      simpa using this
    cases s0 <;> cases e0 <;> cases first
    all_goals
      go_enter Try.func26, Try.ntmps26
      go_upto_region 1 with fail
      rw [HW.out, HN.out]
      go_wp2
      go_ret
      exact ⟨rfl, HK.out⟩

set_option maxRecDepth 20000 in
set_option maxHeartbeats 1000000 in
theorem kind6 (d : Int) (S D : ByteArray) (l : List Atr) (aa : Option Addr) (n ac : Nat) (hln : l.length = n) (hn : n ≤ 100000000) (hsz : ∀ x ∈ l, x.name.length ≤ 1000000000 ∧ x.value.length ≤ 1000000000) (first : Bool) (w : World) (ha : AtsIn (fun k => k < w.heap.size) w aa l) :
    Calls Try.prog 26 #[.agg #[.int .i64 d, .int .u8 (6 : Int), .string S, .string D, .slice aa n ac], .bool first] w fun e w' => e = .returned (.bool (kindP ⟨d, 6, S.toList, l, D.toList⟩ first)) ∧ Kept (fun k => k < w.heap.size) w w' := by
  obtain ⟨W, hW⟩ : ∃ W, w.alloc (.cells #[.int .i64 d, .int .u8 (6 : Int), .string S, .string D, .slice aa n ac] 38) = W := ⟨_, rfl⟩
  obtain ⟨N, hN⟩ : ∃ N, w.heap.size = N := ⟨_, rfl⟩
  have kW : Kept (fun k => k < w.heap.size) w W := by rw [← hW]; exact (Kept.refl _ w).alloc (fun _ h => h) _
  have sW : N < W.heap.size := by rw [← hW, ← hN]; simp
  have hcW : ∀ i u, #[.int .i64 d, .int .u8 (6 : Int), .string S, .string D, .slice aa n ac].toList[i]? = some u → W.cell? ⟨N, i, none⟩ = some u := by
    intro i u hi
    rw [← hW, ← hN, cell_block (heap_alloc_new w _), ← Array.getElem?_toList]
    exact hi
  have haW : AtsIn (fun k => k < W.heap.size) W aa l := ha.kept kW fun k h => Nat.lt_of_lt_of_le h kW.size
  have HK : Hid (Kept (fun k => k < w.heap.size) w W) := kW
  have HW : Hid (w.alloc (.cells #[.int .i64 d, .int .u8 (6 : Int), .string S, .string D, .slice aa n ac] 38) = W) := hW
  have HN : Hid (w.heap.size = N) := hN
  have hu := And.intro hn hsz
  clear hu
  have t0 := hcW 0 _ rfl
  have t1 := hcW 1 _ rfl
  have t2 := hcW 2 _ rfl
  have t3 := hcW 3 _ rfl
  have t4 := hcW 4 _ rfl
  have hu2 := haW
  clear hu2
  have ek : kindP ⟨d, 6, S.toList, l, D.toList⟩ first = ((first && D.toList == []) && decide (l.length = 0)) := rfl
  rw [ek, hln]
  obtain ⟨s0, hs0⟩ : ∃ v, (S.toList == []) = v := ⟨_, rfl⟩
  obtain ⟨e0, he0⟩ : ∃ v, (D.toList == []) = v := ⟨_, rfl⟩
  try rw [hs0]
  try rw [he0]
  clear hW hN kW sW hcW haW ha hln hsz ek
  by_cases h0 : n = 0
  · subst h0
    rw [decide_eq_true rfl]
    cases s0 <;> cases e0 <;> cases first
    all_goals
      go_enter Try.func26, Try.ntmps26
      go_upto_region 1 with fail
      rw [HW.out, HN.out]
      go_wp2
      go_ret
      exact ⟨rfl, HK.out⟩
  · rw [decide_eq_false h0]
    have hz : ((n : Int) == 0) = false := by
      have : (n : Int) ≠ 0 := by omega
      simpa using this
    cases s0 <;> cases e0 <;> cases first
    all_goals
      go_enter Try.func26, Try.ntmps26
      go_upto_region 1 with fail
      rw [HW.out, HN.out]
      go_wp2
      go_ret
      exact ⟨rfl, HK.out⟩

set_option maxRecDepth 20000 in
set_option maxHeartbeats 1000000 in
theorem kind0 (d : Int) (kd : Nat) (n1 : kd ≠ 1) (n2 : kd ≠ 2) (n3 : kd ≠ 3) (n6 : kd ≠ 6) (S D : ByteArray) (l : List Atr) (aa : Option Addr) (n ac : Nat) (hln : l.length = n) (hn : n ≤ 100000000) (hsz : ∀ x ∈ l, x.name.length ≤ 1000000000 ∧ x.value.length ≤ 1000000000) (first : Bool) (w : World) (ha : AtsIn (fun k => k < w.heap.size) w aa l) :
    Calls Try.prog 26 #[.agg #[.int .i64 d, .int .u8 (kd : Int), .string S, .string D, .slice aa n ac], .bool first] w fun e w' => e = .returned (.bool (kindP ⟨d, kd, S.toList, l, D.toList⟩ first)) ∧ Kept (fun k => k < w.heap.size) w w' := by
  obtain ⟨W, hW⟩ : ∃ W, w.alloc (.cells #[.int .i64 d, .int .u8 (kd : Int), .string S, .string D, .slice aa n ac] 38) = W := ⟨_, rfl⟩
  obtain ⟨N, hN⟩ : ∃ N, w.heap.size = N := ⟨_, rfl⟩
  have kW : Kept (fun k => k < w.heap.size) w W := by rw [← hW]; exact (Kept.refl _ w).alloc (fun _ h => h) _
  have sW : N < W.heap.size := by rw [← hW, ← hN]; simp
  have hcW : ∀ i u, #[.int .i64 d, .int .u8 (kd : Int), .string S, .string D, .slice aa n ac].toList[i]? = some u → W.cell? ⟨N, i, none⟩ = some u := by
    intro i u hi
    rw [← hW, ← hN, cell_block (heap_alloc_new w _), ← Array.getElem?_toList]
    exact hi
  have haW : AtsIn (fun k => k < W.heap.size) W aa l := ha.kept kW fun k h => Nat.lt_of_lt_of_le h kW.size
  have HK : Hid (Kept (fun k => k < w.heap.size) w W) := kW
  have HW : Hid (w.alloc (.cells #[.int .i64 d, .int .u8 (kd : Int), .string S, .string D, .slice aa n ac] 38) = W) := hW
  have HN : Hid (w.heap.size = N) := hN
  have hu := And.intro hn hsz
  clear hu
  have t0 := hcW 0 _ rfl
  have t1 := hcW 1 _ rfl
  have t2 := hcW 2 _ rfl
  have t3 := hcW 3 _ rfl
  have t4 := hcW 4 _ rfl
  have q1 : ((kd : Int) == 1) = false := by
    have : (kd : Int) ≠ 1 := by omega
    simpa using this
  have q2 : ((kd : Int) == 2) = false := by
    have : (kd : Int) ≠ 2 := by omega
    simpa using this
  have q3 : ((kd : Int) == 3) = false := by
    have : (kd : Int) ≠ 3 := by omega
    simpa using this
  have q6 : ((kd : Int) == 6) = false := by
    have : (kd : Int) ≠ 6 := by omega
    simpa using this
  have ek : kindP ⟨d, kd, S.toList, l, D.toList⟩ first = false := by
    unfold kindP
    dsimp only
    rw [if_neg n1, if_neg n2, if_neg n3, if_neg n6]
  rw [ek]
  have hu2 := And.intro hln haW
  clear hu2
  clear hW hN kW sW hcW haW ha hln hsz ek n1 n2 n3 n6
  go_enter Try.func26, Try.ntmps26
  go_upto_region 1 with fail
  rw [HW.out, HN.out]
  clear HW HN
  go_wp2
  go_ret
  exact ⟨rfl, HK.out⟩

theorem kind_any (d : Int) (kd : Nat) (S D : ByteArray) (l : List Atr) (aa : Option Addr) (n ac : Nat) (hln : l.length = n) (hn : n ≤ 100000000) (hsz : ∀ x ∈ l, x.name.length ≤ 1000000000 ∧ x.value.length ≤ 1000000000) (first : Bool) (w : World) (ha : AtsIn (fun k => k < w.heap.size) w aa l) :
    Calls Try.prog 26 #[.agg #[.int .i64 d, .int .u8 (kd : Int), .string S, .string D, .slice aa n ac], .bool first] w fun e w' => e = .returned (.bool (kindP ⟨d, kd, S.toList, l, D.toList⟩ first)) ∧ Kept (fun k => k < w.heap.size) w w' := by
  by_cases c1 : kd = 1
  · subst c1; exact kind1 d S D l aa n ac hln hn hsz first w ha
  by_cases c2 : kd = 2
  · subst c2; exact kind2 d S D l aa n ac hln hn hsz first w ha
  by_cases c3 : kd = 3
  · subst c3; exact kind3 d S D l aa n ac hln hn hsz first w ha
  by_cases c6 : kd = 6
  · subst c6; exact kind6 d S D l aa n ac hln hn hsz first w ha
  exact kind0 d kd c1 c2 c3 c6 S D l aa n ac hln hn hsz first w ha
end Go.Proofs.Ytffllhohlfblnaa

namespace Go.Proofs.Ytffllhohlfblnaa
open Go.RowKit Go.Sort

def izCells (x : Iz) (aa : Option Addr) (ac : Nat) : List Value := [.int .i64 x.deep, .int .u8 (x.kind : Int), sv x.name, sv x.data, .slice aa x.attrs.length ac]
/-- Items lie at a slice. -/
def IzIn (w : World) (ia : Option Addr) (l : List Iz) : Prop :=
  ∀ j (_ : j < l.length), ∃ g aa ac, ia = some ⟨g, 0, none⟩ ∧ g < w.heap.size ∧ AtsIn (fun k => k < w.heap.size) w aa l[j].attrs ∧ ∀ i u, (izCells l[j] aa ac)[i]? = some u → w.cell? ⟨g, j * 5 + i, none⟩ = some u
theorem IzIn.kept {w w' : World} {ia : Option Addr} {l : List Iz} (h : IzIn w ia l) (hk : Kept (fun k => k < w.heap.size) w w') : IzIn w' ia l := fun j hj => by
  obtain ⟨g, aa, ac, h1, h2, h3, h5⟩ := h j hj
  exact ⟨g, aa, ac, h1, Nat.lt_of_lt_of_le h2 hk.size, h3.kept hk fun k h => Nat.lt_of_lt_of_le h hk.size, fun i u hi => by rw [hk.cell (p := ⟨g, j * 5 + i, none⟩) h2]; exact h5 i u hi⟩
def It.z (x : It) : Iz := ⟨x.deep, x.kind, x.name, x.attrs, x.data⟩
theorem ItsIn.z {w : World} {ia : Option Addr} {l : List It} (h : ItsIn w ia l) : IzIn w ia (l.map It.z) := fun j hj => by
  obtain ⟨g, aa, ac, h1, h2, h3, h4, h5⟩ := h j (by simpa using hj)
  refine ⟨g, aa, ac, h1, h2, by simpa [It.z] using h3, fun i u hi => h5 i u ?_⟩
  simpa [izCells, itCells, It.z] using hi

/-- How deep the next one may be. -/
def nextD (x : Iz) : Int := if (decide (x.kind = 1) && !voidP x.name) = true then x.deep + 1 else x.deep
def soundP : Int → Bool → List Iz → Bool
  | _, _, [] => true
  | most, first, x :: r => ((!(decide (x.deep < 0) || decide (x.deep > most))) && kindP x first) && soundP (nextD x) false r
def soundL (l : List Iz) : Bool := decide (l.length ≤ 5000) && soundP 0 true l

set_option maxRecDepth 20000 in
set_option maxHeartbeats 2000000 in
theorem sound_any (l : List Iz) (la : Option Addr) (n cap : Nat) (hln : l.length = n) (hn : n ≤ 100000000) (hsz : ∀ y ∈ l, y.attrs.length ≤ 100000000 ∧ ∀ x ∈ y.attrs, x.name.length ≤ 1000000000 ∧ x.value.length ≤ 1000000000) (w : World) (h : IzIn w la l) :
    Calls Try.prog 15 #[.slice la n cap] w fun e w' => e = .returned (.bool (soundL l)) ∧ Kept (fun k => k < w.heap.size) w w' := by
  by_cases h5 : n ≤ 5000
  · have hg : decide ((n : Int) > 5000) = false := decide_eq_false (by omega)
    have es : soundL l = soundP 0 true l := by
      unfold soundL
      rw [hln, decide_eq_true h5]
      rfl
    rw [es]
    obtain ⟨R, hR⟩ : ∃ R, soundP 0 true l = R := ⟨_, rfl⟩
    rw [hR]
    have HR : Hid (soundP 0 true (l.drop 0) = R) := hR
    have HL : Hid (l.length = n) := hln
    have HI : Hid (IzIn w la l) := h
    have HSZ : Hid (∀ y ∈ l, y.attrs.length ≤ 100000000 ∧ ∀ x ∈ y.attrs, x.name.length ≤ 1000000000 ∧ x.value.length ≤ 1000000000) := hsz
    clear es hR hln h hsz hn
    go_enter Try.func15, Try.ntmps15
    go_upto_region 5 with fail
    go_loopg [11, 3] n (fun g v m wr => ∃ (k : Nat) (most : Int), g = n - k ∧ k ≤ n ∧ v = .int .i64 k ∧ m = .int .i64 most ∧ 0 ≤ most ∧ most ≤ k ∧ soundP most (decide (k = 0)) (l.drop k) = R ∧ Kept (fun k => k < w.heap.size) w wr)
    case atStart => exact ⟨0, 0, rfl, Nat.zero_le _, rfl, rfl, Int.le_refl _, Int.le_refl _, HR.out, Kept.refl _ _⟩
    case round =>
      clear HR
      obtain ⟨k, most, hgk, hk, rfl, rfl, hm0, hm1, hRk, hKk⟩ := hrel
      have HK : Hid (Kept (fun k => k < w.heap.size) w wr) := hKk
      clear hKk
      by_cases hlt : k < n
      · have hl : k < l.length := by rw [HL.out]; exact hlt
        rw [List.drop_eq_getElem_cons hl] at hRk
        obtain ⟨g, aa, ac, hg', hgl, hA, hc⟩ := HI.out k hl
        have hszk := HSZ.out l[k] (List.getElem_mem hl)
        subst hg'
        obtain ⟨x, hx⟩ : ∃ x, l[k] = x := ⟨_, rfl⟩
        rw [hx] at hRk hA hc hszk
        obtain ⟨d, kd, nm, at_, dt⟩ := x
        have e : ∀ i u, (izCells ⟨d, kd, nm, at_, dt⟩ aa ac)[i]? = some u → wr.cell? ⟨g, k * 5 + i, none⟩ = some u := fun i u hi => (HK.out.cell (p := ⟨g, k * 5 + i, none⟩) hgl).trans (hc i u hi)
        obtain ⟨S, hS⟩ : ∃ S : ByteArray, (⟨nm.toArray⟩ : ByteArray) = S := ⟨_, rfl⟩
        obtain ⟨D, hD⟩ : ∃ D : ByteArray, (⟨dt.toArray⟩ : ByteArray) = D := ⟨_, rfl⟩
        have c0 : wr.cell? ⟨g, k * 5, none⟩ = some (.int .i64 d) := e 0 _ rfl
        have c1 : wr.cell? ⟨g, k * 5 + 1, none⟩ = some (.int .u8 (kd : Int)) := e 1 _ rfl
        have c2 : wr.cell? ⟨g, k * 5 + 2, none⟩ = some (.string S) := by rw [← hS]; exact e 2 _ rfl
        have c3 : wr.cell? ⟨g, k * 5 + 3, none⟩ = some (.string D) := by rw [← hD]; exact e 3 _ rfl
        obtain ⟨m, hm⟩ : ∃ m, at_.length = m := ⟨_, rfl⟩
        have c4 : wr.cell? ⟨g, k * 5 + 4, none⟩ = some (.slice aa m ac) := by rw [← hm]; exact e 4 _ rfl
        have hSl : S.toList = nm := by rw [ByteArray.toList_eq, ← hS]
        have hDl : D.toList = dt := by rw [ByteArray.toList_eq, ← hD]
        have hR1 : ((!(decide (d < 0) || decide (d > most))) && kindP ⟨d, kd, nm, at_, dt⟩ (decide (k = 0)) && soundP (nextD ⟨d, kd, nm, at_, dt⟩) false (l.drop (k + 1))) = R := hRk
        rw [← hSl, ← hDl] at hR1
        obtain ⟨V, hV⟩ : ∃ V, wr.alloc (.cells #[.int .i64 d, .int .u8 (kd : Int), .string S, .string D, .slice aa m ac] 38) = V := ⟨_, rfl⟩
        obtain ⟨N, hN⟩ : ∃ N, wr.heap.size = N := ⟨_, rfl⟩
        have kV : Kept (fun k => k < wr.heap.size) wr V := by rw [← hV]; exact (Kept.refl _ wr).alloc (fun _ h => h) _
        have kwV : Kept (fun k => k < w.heap.size) w V := HK.out.trans (kV.mono fun k h => Nat.lt_of_lt_of_le h HK.out.size)
        have sV : N < V.heap.size := by rw [← hV, ← hN]; simp
        have hcV : ∀ i u, #[Value.int .i64 d, .int .u8 (kd : Int), .string S, .string D, .slice aa m ac].toList[i]? = some u → V.cell? ⟨N, i, none⟩ = some u := by
          intro i u hi
          rw [← hV, ← hN, cell_block (heap_alloc_new wr _), ← Array.getElem?_toList]
          exact hi
        have r := kind_any d kd S D at_ aa m ac hm (by rw [← hm]; exact hszk.1) hszk.2 (decide (k = 0)) V (hA.kept kwV fun k h => Nat.lt_of_lt_of_le h kwV.size)
        obtain ⟨fz, hfz⟩ : ∃ f, decide (k = 0) = f := ⟨_, rfl⟩
        rw [hfz] at r hR1
        have q0 : ((k : Int) == 0) = fz := by
          rw [← hfz, Bool.eq_iff_iff]
          simp
        obtain ⟨kq, hkq⟩ : ∃ q, kindP ⟨d, kd, S.toList, at_, D.toList⟩ fz = q := ⟨_, rfl⟩
        rw [hkq] at r hR1
        obtain ⟨nx, hnx⟩ : ∃ z, nextD ⟨d, kd, S.toList, at_, D.toList⟩ = z := ⟨_, rfl⟩
        rw [hnx] at hR1
        have HNX : Hid ((if (decide (kd = 1) && !voidP S.toList) = true then d + 1 else d) = nx) := hnx
        have HR1 : Hid ((!(decide (d < 0) || decide (d > most)) && kq && soundP nx false (l.drop (k + 1))) = R) := hR1
        have HV : Hid (wr.alloc (.cells #[.int .i64 d, .int .u8 (kd : Int), .string S, .string D, .slice aa m ac] 38) = V) := hV
        have HN : Hid (wr.heap.size = N) := hN
        have HKV : Hid (Kept (fun k => k < w.heap.size) w V) := kwV
        have HCV : Hid (∀ X, Kept (fun k => k < V.heap.size) V X → ∀ i u, #[Value.int .i64 d, .int .u8 (kd : Int), .string S, .string D, .slice aa m ac].toList[i]? = some u → X.cell? ⟨N, i, none⟩ = some u) := fun X hX i u hi => (hX.cell (p := ⟨N, i, none⟩) sV).trans (hcV i u hi)
        have t0 := hcV 0 _ rfl
        have t1 := hcV 1 _ rfl
        have t2 := hcV 2 _ rfl
        have t3 := hcV 3 _ rfl
        have t4 := hcV 4 _ rfl
        clear hRk hA hc hszk e hS hD hm hSl hDl hR1 hV hN kV kwV sV hcV hkq hnx hfz hgl hx
        by_cases hd0 : d < 0
        · have hR : R = false := by
            rw [← HR1.out, decide_eq_true hd0]
            rfl
          subst hR
          have hd0' : decide (d < 0) = true := decide_eq_true hd0
          clear HR1 r
          go_upto_region 7 with fail
          rw [HV.out, HN.out]
          go_wp2
          go_ret
          exact ⟨rfl, HKV.out⟩
        · have hd0' : decide (d < 0) = false := decide_eq_false hd0
          by_cases hdm : d > most
          · have hR : R = false := by
              rw [← HR1.out, decide_eq_true hdm]
              simp
            subst hR
            have hdm' : decide (d > most) = true := decide_eq_true hdm
            clear HR1 r
            go_upto_region 7 with fail
            rw [HV.out, HN.out]
            go_wp2
            go_ret
            exact ⟨rfl, HKV.out⟩
          · have hdm' : decide (d > most) = false := decide_eq_false hdm
            have hR2 := HR1.out
            rw [hd0', hdm'] at hR2
            have HR2 : Hid ((kq && soundP nx false (l.drop (k + 1))) = R) := hR2
            have hdk : d ≤ k := by omega
            have hd00 : 0 ≤ d := by omega
            clear hR2 HR1 hd0 hdm
            go_upto_region 7 with fail
            rw [HV.out, HN.out]
            go_wp2_with fail
            refine r.mono ?_
            rintro e w2 ⟨rfl, k2⟩
            have HK2 : Hid (Kept (fun k => k < w.heap.size) w w2) := HKV.out.trans (k2.mono fun k h => Nat.lt_of_lt_of_le h HKV.out.size)
            have m0 := HCV.out w2 k2 0 _ rfl
            have m1 := HCV.out w2 k2 1 _ rfl
            have m2 := HCV.out w2 k2 2 _ rfl
            clear r k2 t0 t1 t2 t3 t4 c0 c1 c2 c3 c4 HV HN HKV HCV
            cases kq with
            | false =>
              have hR : R = false := HR2.out.symm
              subst hR
              clear HR2
              go_wp2
              go_ret
              exact ⟨rfl, HK2.out⟩
            | true =>
              have hR3 := HR2.out
              rw [Bool.true_and] at hR3
              have HR3 : Hid (soundP nx false (l.drop (k + 1)) = R) := hR3
              clear HR2 hR3
              by_cases hk1 : kd = 1
              · subst hk1
                have rv := void_any S (fun k => k < w2.heap.size) w2
                obtain ⟨v, hv⟩ : ∃ v, voidP S.toList = v := ⟨_, rfl⟩
                rw [hv] at rv
                have hnx := HNX.out
                rw [hv] at hnx
                clear hv HNX
                cases v with
                | true =>
                  have hnx' : d = nx := hnx
                  subst hnx'
                  clear hnx
                  go_wp2_with fail
                  refine rv.mono ?_
                  rintro e w3 ⟨rfl, k3⟩
                  have HK3 : Hid (Kept (fun k => k < w.heap.size) w w3) := HK2.out.trans (k3.mono fun k h => Nat.lt_of_lt_of_le h HK2.out.size)
                  clear rv k3 m0 m1 m2
                  go_wp2
                  go_roundg (n - (k + 1))
                  case rel => exact ⟨k + 1, d, rfl, by omega, by go_num, rfl, hd00, by omega, HR3.out, HK3.out⟩
                  case measure => omega
                | false =>
                  have hnx' : d + 1 = nx := hnx
                  subst hnx'
                  clear hnx
                  go_wp2_with fail
                  refine rv.mono ?_
                  rintro e w3 ⟨rfl, k3⟩
                  have HK3 : Hid (Kept (fun k => k < w.heap.size) w w3) := HK2.out.trans (k3.mono fun k h => Nat.lt_of_lt_of_le h HK2.out.size)
                  clear rv k3 m0 m1 m2
                  go_wp2
                  go_roundg (n - (k + 1))
                  case rel => exact ⟨k + 1, d + 1, rfl, by omega, by go_num, rfl, by omega, by omega, HR3.out, HK3.out⟩
                  case measure => omega
              · have q1 : ((kd : Int) == 1) = false := by
                  have : (kd : Int) ≠ 1 := by omega
                  simpa using this
                have hnx' : d = nx := by
                  rw [← HNX.out, decide_eq_false hk1]
                  rfl
                subst hnx'
                clear HNX
                go_wp2
                go_roundg (n - (k + 1))
                case rel => exact ⟨k + 1, d, rfl, by omega, by go_num, rfl, hd00, by omega, HR3.out, HK2.out⟩
                case measure => omega
      · have hkk : k = n := by omega
        subst hkk
        have hR : R = true := by
          rw [← hRk, List.drop_eq_nil_of_le (by rw [HL.out]; exact Nat.le_refl _)]
          rfl
        subst hR
        clear hRk
        go_wp2
        go_ret
        exact ⟨rfl, HK.out⟩
  · have hg : decide ((n : Int) > 5000) = true := decide_eq_true (by omega)
    have es : soundL l = false := by
      unfold soundL
      rw [hln, decide_eq_false h5]
      rfl
    rw [es]
    have hu := And.intro hsz h
    clear hu es hln hsz h
    go_enter Try.func15, Try.ntmps15
    go_wp2
    go_ret
    exact ⟨rfl, Kept.refl _ _⟩
end Go.Proofs.Ytffllhohlfblnaa

namespace Go.Proofs.Ytffllhohlfblnaa
open Go.RowKit Go.Sort

def exS : List UInt8 := [60, 117, 108, 62, 60, 108, 105, 62, 97, 60, 108, 105, 62, 98, 60, 47, 117, 108, 62]
def exT : List Tk := [⟨1, [117, 108], [], false, [], 0⟩, ⟨1, [108, 105], [], false, [], 4⟩, ⟨3, [], [], false, [97], 8⟩, ⟨1, [108, 105], [], false, [], 9⟩, ⟨3, [], [], false, [98], 13⟩, ⟨2, [117, 108], [], false, [], 14⟩]
def exI : List It := [⟨0, 1, [117, 108], [], []⟩, ⟨1, 1, [108, 105], [], []⟩, ⟨2, 2, [], [], [97]⟩, ⟨1, 1, [108, 105], [], []⟩, ⟨2, 2, [], [], [98]⟩]
theorem ex_tok : (tokL exS).toks = exT := by kernel_rfl
theorem ex_flt : (tokL exS).flts = [] := by kernel_rfl
theorem ex_build : buildL exT = some ⟨exI, [], []⟩ := by kernel_rfl
theorem ex_sound : soundL (exI.map It.z) = true := by kernel_rfl
def exX : Iz := ⟨1, 2, [], [], [120]⟩
theorem ex_not : soundL [exX] = false := by kernel_rfl

set_option maxRecDepth 20000 in
set_option maxHeartbeats 2000000 in
theorem known_any (w : World) :
    Calls Try.prog 9 #[] w fun e w' => e = .returned (.bool true) ∧ Kept (fun k => k < w.heap.size) w w' := by
  have r1 := dtokens exS (by decide) (fun k => k < w.heap.size) w (fun _ h => h)
  rw [ex_tok, ex_flt, show exT.length = 6 from rfl, show ([] : List Fl).length = 0 from rfl] at r1
  go_enter Try.func9, Try.ntmps9
  go_wp2_with fail
  refine r1.mono ?_
  rintro e w1 ⟨ta, tc, fa, fc, rfl, hT, -, k1, -, -⟩
  have HT : Hid (ToksIn (fun k => k < w1.heap.size) w1 ta exT) := hT
  have HK1 : Hid (Kept (fun k => k < w.heap.size) w w1) := k1
  clear r1 hT k1
  have r2 := build_any exT ta 6 tc rfl (by decide) (by decide) (by intro t ht; simp [exT] at ht; rcases ht with rfl | rfl | rfl | rfl | rfl | rfl <;> intro x hx <;> cases hx) w1 HT.out
  rw [ex_build] at r2
  have r2' : Calls Try.prog 11 #[.slice ta 6 tc] w1 fun e w' => (∃ ia ic fa fc, e = .returned (.tuple #[.slice ia 5 ic, .slice fa 0 fc, .int .u16 0]) ∧ ItsIn w' ia exI) ∧ Kept (fun k => k < w1.heap.size) w1 w' := by
    refine r2.mono ?_
    rintro e w' ⟨⟨ia, ic, fa, fc, h1, h2, -⟩, h3⟩
    exact ⟨⟨ia, ic, fa, fc, h1, h2⟩, h3⟩
  clear r2
  go_wp2_with fail
  refine r2'.mono ?_
  rintro e w2 ⟨⟨ia, ic, fa2, fc2, rfl, hI⟩, k2⟩
  have HI : Hid (ItsIn w2 ia exI) := hI
  have HK2 : Hid (Kept (fun k => k < w.heap.size) w w2) := HK1.out.trans (k2.mono fun k h => Nat.lt_of_lt_of_le h HK1.out.size)
  obtain ⟨g, aa1, ac1, hg, hgl, -, -, c1⟩ := hI 1 (by decide)
  obtain ⟨g2, aa2, ac2, hg2, -, -, -, c2⟩ := hI 2 (by decide)
  obtain ⟨g3, aa3, ac3, hg3, -, -, -, c3⟩ := hI 3 (by decide)
  subst hg
  injection hg2 with hg2
  injection hg2 with hg2
  injection hg3 with hg3
  injection hg3 with hg3
  subst hg2 hg3
  have m1 : w2.cell? ⟨g, 7, none⟩ = some (.string ⟨#[108, 105]⟩) := c1 2 _ rfl
  have m2 : w2.cell? ⟨g, 5, none⟩ = some (.int .i64 1) := c1 0 _ rfl
  have m3 : w2.cell? ⟨g, 13, none⟩ = some (.string ⟨#[97]⟩) := c2 3 _ rfl
  have m4 : w2.cell? ⟨g, 15, none⟩ = some (.int .i64 1) := c3 0 _ rfl
  have r3 := sound_any (exI.map It.z) (some ⟨g, 0, none⟩) 5 ic rfl (by decide) (by intro y hy; simp [exI, It.z] at hy; rcases hy with rfl | rfl | rfl | rfl | rfl <;> exact ⟨Nat.zero_le _, fun x hx => by cases hx⟩) w2 HI.out.z
  rw [ex_sound] at r3
  clear r2' hI k2 c1 c2 c3 HT HK1 hgl
  go_wp2_with fail
  refine r3.mono ?_
  rintro e w3 ⟨rfl, k3⟩
  have HK3 : Hid (Kept (fun k => k < w.heap.size) w w3) := HK2.out.trans (k3.mono fun k h => Nat.lt_of_lt_of_le h HK2.out.size)
  obtain ⟨V, hV⟩ : ∃ V, w3.alloc (.cells #[.int .i64 1, .int .u8 2, .string ⟨#[]⟩, .string ⟨#[120]⟩, .slice none 0 0] 38) = V := ⟨_, rfl⟩
  obtain ⟨N, hN⟩ : ∃ N, w3.heap.size = N := ⟨_, rfl⟩
  have sV : N < V.heap.size := by rw [← hV, ← hN]; simp
  have kV : Kept (fun k => k < w3.heap.size) w3 V := by rw [← hV]; exact (Kept.refl _ w3).alloc (fun _ h => h) _
  have hZ : IzIn V (some ⟨N, 0, none⟩) [exX] := by
    intro j hj
    have : j = 0 := by simp at hj; omega
    subst this
    refine ⟨N, none, 0, rfl, sV, AtsIn.nil _ _ _, fun i u hi => ?_⟩
    rw [← hV, ← hN, Nat.zero_mul, Nat.zero_add, cell_block (heap_alloc_new w3 _), ← Array.getElem?_toList]
    exact hi
  have r4 := sound_any [exX] (some ⟨N, 0, none⟩) 1 1 rfl (by decide) (by intro y hy; simp at hy; subst hy; exact ⟨Nat.zero_le _, fun x hx => by cases hx⟩) V hZ
  rw [ex_not] at r4
  have HK4 : Hid (Kept (fun k => k < w.heap.size) w V) := HK3.out.trans (kV.mono fun k h => Nat.lt_of_lt_of_le h HK3.out.size)
  have HV : Hid (w3.alloc (.cells #[.int .i64 1, .int .u8 2, .string ⟨#[]⟩, .string ⟨#[120]⟩, .slice none 0 0] 38) = V) := hV
  have HN : Hid (w3.heap.size = N) := hN
  clear r3 k3 hV hN sV kV hZ m1 m2 m3 m4 HI HK2
  go_wp2_with fail
  rw [HV.out, HN.out]
  refine r4.mono ?_
  rintro e w4 ⟨rfl, k4⟩
  have HK5 : Hid (Kept (fun k => k < w.heap.size) w w4) := HK4.out.trans (k4.mono fun k h => Nat.lt_of_lt_of_le h HK4.out.size)
  clear r4 k4 HV HN
  go_wp2
  go_ret
  exact ⟨rfl, HK5.out⟩
end Go.Proofs.Ytffllhohlfblnaa
