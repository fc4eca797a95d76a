/-
  Attributes are copied; what a node may be; makeOne, Make, New.
-/
import Derived.Test.YthhoicmfmfeehaaGreatZ06
import Derived.Test.YthhoicmfmfeehaaGreatZ11
namespace Go.Proofs.YthhoicmfmfeehaaGreat
open Go.RowKit
set_option linter.unusedVariables false
section
variable {P : Program}
/-- append of some elements of some cells each. -/
theorem run_appM {K : Nat → Prop} (w : World) (t tx ty e : TypeId) (i : TypeInfo) (zv : Value) (ht : P.underlying t = some (.slice e)) (hi : P.info? e = some i) (hz : i.zero = some zv) (z : Nat) (hsize : i.size = z) (hzs : zv.cells.size = z) (hby : i.bytes ≤ 128)
    {ao : Option Addr} {n cap : Nat} {xs : List Value} (hown : OwnZ K w e z ao n cap xs) (x : Value) (m : Nat) (hm0 : 0 < m) (hm : m ≤ 100000000) (news : List Value) (hs : Src P z tx x m news w)
    (hK : ∀ k, K k → k < w.heap.size) (hn : n ≤ 1000000000) :
    ∃ ao' cap' w', (Builtin.append_ #[t, tx] ty #[.slice ao n cap, x]).run P w = .ok (.slice ao' (n + m) cap') w' ∧ OwnZ K w' e z ao' (n + m) cap' (xs ++ news) ∧ Kept K w w' := by
  subst hsize
  have h63 : n + m ≤ maxLen := by unfold maxLen; omega
  have hbytes : (n + m) * i.bytes ≤ 140737488355328 := by
    have : (n + m) * i.bytes ≤ (1000000000 + 100000000) * 128 := Nat.mul_le_mul (by omega) hby
    omega
  have hnl : news.length = m * i.size := by simpa using hs.newsLen
  obtain ⟨h1, h2, h3, h4⟩ := hown
  have hlen : (xs ++ news).length = (n + m) * i.size := by rw [List.length_append, h1, hnl, Nat.add_mul]
  have grow : cap < n + m → (Builtin.firstCells i.size n (.slice ao n cap)).run P w.drew = .ok xs.toArray w.drew →
      ∃ ao' cap' w', (Builtin.append_ #[t, tx] ty #[.slice ao n cap, x]).run P w = .ok (.slice ao' (n + m) cap') w' ∧ OwnZ K w' e i.size ao' (n + m) cap' (xs ++ news) ∧ Kept K w w' := by
    intro hg hold
    have hr := run_append_grow_src (P := P) w t tx ty e i zv ht hi hz ao n cap xs hold x m news hs hg (by omega) (growslice_fits hg hbytes)
    have hge := grownCap_ge w (n + m) cap e
    refine ⟨_, _, _, hr, ⟨hlen, hge, grownCap_le_maxLen w (n + m) cap e h63, .inr ⟨w.heap.size, _, rfl, fun hk => Nat.lt_irrefl _ (hK _ hk), heap_alloc_new w.drew _, ?_, ?_⟩⟩, (Kept.refl K w).drew.alloc (by simpa using hK) _⟩
    · rw [Array.size_append, List.size_toArray, hlen, size_zeroCells, hzs, ← Nat.add_mul]
      congr 1
      omega
    · rw [Array.toList_append]
      rw [← hlen]
      exact List.take_left
  rcases h4 with ⟨rfl, rfl⟩ | ⟨g, cur, rfl, r2, r3, r4, r5⟩
  · have hn0 : n = 0 := by omega
    subst hn0
    have hx : xs = [] := List.eq_nil_of_length_eq_zero (by omega)
    subst hx
    exact grow (by omega) (run_firstCells_none w.drew i.size 0 0 0)
  · have hcells : ∀ j u, xs[j]? = some u → w.cell? ((⟨g, 0, none⟩ : Addr).add j) = some u := by
      intro j u hj
      have hjl : j < xs.length := by
        rcases Nat.lt_or_ge j xs.length with hl | hg
        · exact hl
        · rw [List.getElem?_eq_none hg] at hj; cases hj
      have : (⟨g, 0, none⟩ : Addr).add j = ⟨g, j, none⟩ := by rw [Addr.add_lit, Nat.zero_add]
      rw [this, cell_block r3, ← hj, ← r5, List.getElem?_take, if_pos (by omega), Array.getElem?_toList]
    by_cases hroom : n + m ≤ cap
    · have hfit : n * i.size + m * i.size ≤ cur.size := by
        rw [r4, ← Nat.add_mul]
        exact Nat.mul_le_mul_right _ hroom
      have hr := run_append_room_src (P := P) w t tx ty e i ht hi g 0 n cap x m news hs hroom
        (fun j hj => by rw [cell_block r3]; rw [Array.getElem?_eq_getElem (by omega)]; rfl)
        (fun j hj => frozen_block r3 _)
      rw [Nat.zero_add] at hr
      obtain ⟨c', q1, q2⟩ := heap_setCells_at (b := g) (e := e) (f := (0, 0)) news (n * i.size) w cur r3 (by omega)
      refine ⟨_, _, _, hr, ⟨hlen, hroom, h3, .inr ⟨g, c', rfl, r2, q1, ?_, ?_⟩⟩, ⟨?_, ?_, ?_, ?_, ?_⟩⟩
      · have := congrArg List.length q2
        rw [List.length_append, List.length_append, List.length_drop, List.length_take] at this
        simp only [Array.length_toList] at this
        omega
      · rw [q2, r5, ← hlen]
        exact List.take_left
      · exact World.os_setCells w g _ news
      · have key : ∀ (vs : List Value) (o : Nat) (v : World), (v.setCells g o vs).tape = v.tape := by
          intro vs
          induction vs with
          | nil => intro o v; rfl
          | cons a r ih => intro o v; rw [World.setCells, ih]; rfl
        exact key news _ w
      · exact World.output_setCells w g _ news
      · have key : ∀ (vs : List Value) (o : Nat) (v : World), (v.setCells g o vs).heap.size = v.heap.size := by
          intro vs
          induction vs with
          | nil => intro o v; rfl
          | cons a r ih => intro o v; rw [World.setCells, ih]; simp
        rw [key]; exact Nat.le_refl _
      · intro k hk
        exact World.heap_setCells_other w g _ news (hK k hk) (fun e => r2 (e ▸ hk))
    · exact grow (by omega) (run_firstCells_some w.drew i.size n ⟨g, 0, none⟩ n cap xs h1 hcells)
end
theorem infoA : (Tryz.prog.info? 67).map (fun i => (i.zero, i.size, i.bytes)) = some (some (.agg #[.string ⟨#[]⟩, .string ⟨#[]⟩]), 2, 32) := by kernel_rfl
theorem atr_len (l : List Atr) : (atrCells l).length = l.length * 2 := by
  induction l with
  | nil => rfl
  | cons a r ih =>
    show (sv a.name :: sv a.value :: atrCells r).length = _
    rw [List.length_cons, List.length_cons, ih, List.length_cons]
    omega
theorem atr_one (l : List Atr) : ∀ u ∈ atrCells l, u.oneCell' = true := by
  intro u hu
  obtain ⟨a, _, h⟩ := List.mem_flatMap.1 hu
  simp at h
  rcases h with rfl | rfl <;> rfl
theorem atr_get : ∀ (l : List Atr) (j : Nat) (h : j < l.length), (atrCells l)[j * 2]? = some (sv l[j].name) ∧ (atrCells l)[j * 2 + 1]? = some (sv l[j].value)
  | a :: r, 0, _ => ⟨rfl, rfl⟩
  | a :: r, j + 1, h => by
    obtain ⟨h1, h2⟩ := atr_get r j (by simpa using h)
    have e : atrCells (a :: r) = [sv a.name, sv a.value] ++ atrCells r := rfl
    rw [e]
    constructor
    · rw [List.getElem?_append_right (by simp; omega)]
      simpa [show (j + 1) * 2 - 2 = j * 2 from by omega] using h1
    · rw [List.getElem?_append_right (by simp; omega)]
      simpa [show (j + 1) * 2 + 1 - 2 = j * 2 + 1 from by omega] using h2
/-- The cells of attributes, one by one. -/
theorem AtsAt.cells {K : Nat → Prop} {w : World} {aa : Option Addr} {l : List Atr} (h : AtsAt K w aa l) (h0 : 0 < l.length) : ∃ g o, aa = some ⟨g, o, none⟩ ∧ K g ∧ ∀ j u, (atrCells l)[j]? = some u → w.cell? ⟨g, o + j, none⟩ = some u := by
  obtain ⟨g, o, e, hg, -, -⟩ := h 0 h0
  refine ⟨g, o, e, hg, fun j u hj => ?_⟩
  have hjl : j < (atrCells l).length := by
    rcases Nat.lt_or_ge j (atrCells l).length with hl | hg
    · exact hl
    · rw [List.getElem?_eq_none hg] at hj; cases hj
  rw [atr_len] at hjl
  obtain ⟨g', o', e', -, c0, c1⟩ := h (j / 2) (by omega)
  rw [e] at e'
  injection e' with e'
  injection e' with e1 e2
  subst e1 e2
  obtain ⟨a0, a1⟩ := atr_get l (j / 2) (by omega)
  rcases Nat.mod_two_eq_zero_or_one j with hm | hm
  · have hj2 : j / 2 * 2 = j := by omega
    rw [hj2] at a0 c0
    rw [a0] at hj
    injection hj with hj
    rw [← hj]; exact c0
  · have hj2 : j / 2 * 2 + 1 = j := by omega
    rw [hj2] at a1
    rw [Nat.add_assoc, hj2] at c1
    rw [a1] at hj
    injection hj with hj
    rw [← hj]; exact c1
theorem OwnZ.atsAt {K K' : Nat → Prop} {w : World} {ao : Option Addr} {n cap : Nat} {l : List Atr} (h : OwnZ K w 67 2 ao n cap (atrCells l)) (hK : ∀ g, blkOf ao g → K' g) : AtsAt K' w ao l := by
  intro j hj
  obtain ⟨a0, a1⟩ := atr_get l j hj
  obtain ⟨g, e, c0⟩ := h.cell a0
  obtain ⟨g', e', c1⟩ := h.cell a1
  rw [e] at e'
  injection e' with e'
  injection e' with e1
  subst e1
  exact ⟨g, 0, e, hK g e, by rw [Nat.zero_add]; exact c0, by rw [Nat.zero_add]; exact c1⟩

set_option maxRecDepth 20000 in
theorem copyA_any (l : List Atr) (aa : Option Addr) (n ac : Nat) (hln : l.length = n) (hn : n ≤ 100000000) (w : World) (ha : AtsAt (fun k => k < w.heap.size) w aa l) :
    Calls Tryz.prog 49 #[.slice aa n ac] w fun e w' => ∃ ao c, e = .returned (.slice ao n c) ∧ OwnZ (fun k => k < w.heap.size) w' 67 2 ao n c (atrCells l) ∧ Kept (fun k => k < w.heap.size) w w' := by
  obtain ⟨i, hi, hip⟩ := Option.map_eq_some_iff.1 infoA
  have hz : i.zero = _ := congrArg (·.1) hip
  have hsz : i.size = 2 := congrArg (·.2.1) hip
  have hby : i.bytes = 32 := congrArg (·.2.2) hip
  have hl2 : (atrCells l).length = n * 2 := by rw [atr_len, hln]
  have key : ∃ ao c w', (Builtin.append_ #[30, 30] 30 #[.slice none 0 0, .slice aa n ac]).run Tryz.prog w = .ok (.slice ao n c) w' ∧ OwnZ (fun k => k < w.heap.size) w' 67 2 ao n c (atrCells l) ∧ Kept (fun k => k < w.heap.size) w w' := by
    by_cases h0 : n = 0
    · subst h0
      have hl0 : l = [] := List.eq_nil_of_length_eq_zero hln
      subst hl0
      have hs : Src Tryz.prog i.size 30 (.slice aa 0 ac) 0 [] w := by
        cases aa with
        | none => exact Src.ofNil w Tryz.underlying30 _
        | some a => exact Src.ofSlice w Tryz.underlying30 a 0 ac [] (by simp) (fun j u hj => by simp at hj) (fun u hu => by cases hu)
      exact ⟨none, 0, w, run_append_nothing w 30 30 30 67 i Tryz.underlying30 hi none 0 0 (Nat.le_refl _) _ hs, OwnZ.nil _ _ _ _, Kept.refl _ _⟩
    · obtain ⟨g, o, rfl, hg, hc⟩ := ha.cells (by omega)
      have hs : Src Tryz.prog 2 30 (.slice (some ⟨g, o, none⟩) n ac) n (atrCells l) w := by
        refine Src.ofSlice w Tryz.underlying30 _ n ac (atrCells l) (by rw [hl2]) (fun j u hj => ?_) (atr_one l)
        rw [Addr.add_lit]
        exact hc j u hj
      obtain ⟨ao, c, w', hr, ho, hk⟩ := run_appM (P := Tryz.prog) (K := fun k => k < w.heap.size) w 30 30 30 67 i _ Tryz.underlying30 hi hz 2 hsz rfl (by omega) (OwnZ.nil _ _ _ _) _ n (by omega) hn _ hs (fun _ h => h) (by omega)
      rw [Nat.zero_add] at hr ho
      exact ⟨ao, c, w', hr, ho, hk⟩
  obtain ⟨ao, c, w', hr, ho, hk⟩ := key
  have HO : Hid (OwnZ (fun k => k < w.heap.size) w' 67 2 ao n c (atrCells l)) := ho
  have HK : Hid (Kept (fun k => k < w.heap.size) w w') := hk
  clear hip hz hsz hby hl2 ho hk ha hi hln
  go_enter Tryz.func49, Tryz.ntmps49
  go_wp2_with (at_builtin; refine wpList_appR (w' := w') rfl (.const (.slice none 0 0)) (.tmp 3) 30 30 rfl _ _ (.slice ao n c) rfl rfl hr ?_)
  go_ret
  exact ⟨ao, c, rfl, HO.out, HK.out⟩

/-- What is looked at of a node that is to be made. -/
structure Mk where
  kind : Nat
  name : List UInt8
  data : List UInt8
  attrs : List Atr
def Mk.it (x : Mk) : Iz := ⟨0, x.kind, x.name, x.attrs, if x.kind = 2 ∧ x.data = [] then [45] else x.data⟩
def soundN (x : Mk) : Bool := if x.kind = 4 then (x.name == [] && x.data == []) && decide (x.attrs.length = 0) else soundL [x.it]
/-- The rest of a node as a value: nobody looks at it. -/
structure Rest where
  up : Int
  ka : Option Addr
  kn : Nat
  kc : Nat
  shadow : Int
  host : Int
  content : Int
  fl : Fg
abbrev nodeV (kd : Nat) (S D : ByteArray) (aa : Option Addr) (an ac : Nat) (r : Rest) : Value := .agg #[.int .u8 (kd : Int), .string S, .string D, .slice aa an ac, .int .i64 r.up, .slice r.ka r.kn r.kc, .int .i64 r.shadow, .int .i64 r.host, .int .i64 r.content, .bool r.fl.a, .bool r.fl.b, .bool r.fl.c, .bool r.fl.d, .bool r.fl.e]
theorem iz1 (w : World) (N : Nat) (hN : w.heap.size = N) (kd : Nat) (kz : Int) (hkz : kz = (kd : Int)) (S D : ByteArray) (l : List Atr) (aa : Option Addr) (n ac : Nat) (hln : l.length = n) (ha : AtsAt (fun k => k < w.heap.size) w aa l) (hn : n ≤ 100000000) (hsz : ∀ x ∈ l, x.name.length ≤ 1000000000 ∧ x.value.length ≤ 1000000000) :
    Calls Tryz.prog 70 #[.slice (some ⟨N, 0, none⟩) 1 1] (w.alloc (.cells #[.int .i64 0, .int .u8 kz, .string S, .string D, .slice aa n ac] 117)) fun e w' => e = .returned (.bool (soundL [⟨0, kd, S.toList, l, D.toList⟩])) ∧ Kept (fun k => k < w.heap.size) w w' := by
  subst hkz
  subst hN
  obtain ⟨V, hV⟩ : ∃ V, w.alloc (.cells #[.int .i64 0, .int .u8 (kd : Int), .string S, .string D, .slice aa n ac] 117) = V := ⟨_, rfl⟩
  have kV : Kept (fun k => k < w.heap.size) w V := by rw [← hV]; exact (Kept.refl _ w).alloc (fun _ h => h) _
  have sV : w.heap.size < V.heap.size := by rw [← hV]; simp
  rw [hV]
  have hS : (⟨S.toList.toArray⟩ : ByteArray) = S := by
    apply ByteArray.ext
    rw [ByteArray.toList_eq]
  have hD : (⟨D.toList.toArray⟩ : ByteArray) = D := by
    apply ByteArray.ext
    rw [ByteArray.toList_eq]
  have hZ : IzIn V (some ⟨w.heap.size, 0, none⟩) [⟨0, kd, S.toList, l, D.toList⟩] := by
    intro j hj
    have : j = 0 := by simp at hj; omega
    subst this
    refine ⟨w.heap.size, aa, ac, rfl, sV, ha.kept kV fun k h => Nat.lt_of_lt_of_le h kV.size, fun i u hi => ?_⟩
    rw [← hV, Nat.zero_mul, Nat.zero_add, cell_block (heap_alloc_new w _), ← Array.getElem?_toList]
    simp only [izCells, List.getElem_cons_zero, sv, hS, hD, hln] at hi
    exact hi
  have r := sound_any [⟨0, kd, S.toList, l, D.toList⟩] (some ⟨w.heap.size, 0, none⟩) 1 1 rfl (by decide) (by intro y hy; simp at hy; subst hy; exact ⟨by rw [hln]; exact hn, hsz⟩) V hZ
  exact r.mono fun e w' h => ⟨h.1, kV.trans (h.2.mono fun k hk => Nat.lt_of_lt_of_le hk kV.size)⟩

set_option maxRecDepth 20000 in
set_option maxHeartbeats 1000000 in
theorem sound_dom (kd : Nat) (S D : ByteArray) (l : List Atr) (aa : Option Addr) (n ac : Nat) (r : Rest) (hln : l.length = n) (w : World) (ha : AtsAt (fun k => k < w.heap.size) w aa l) (hn : n ≤ 100000000) (hsz : ∀ x ∈ l, x.name.length ≤ 1000000000 ∧ x.value.length ≤ 1000000000) :
    Calls Tryz.prog 60 #[nodeV kd S D aa n ac r] w fun e w' => e = .returned (.bool (soundN ⟨kd, S.toList, D.toList, l⟩)) ∧ Kept (fun k => k < w.heap.size) w w' := by
  have kb : ∀ o : Obj, Kept (fun k => k < w.heap.size) w (w.alloc o) := fun o => (Kept.refl _ w).alloc (fun _ h => h) _
  have r1 := fun (o : Obj) (D' : ByteArray) (kz : Int) (hkz : kz = (kd : Int)) => iz1 (w.alloc o) (w.heap.size + 1) (by simp) kd kz hkz S D' l aa n ac hln (ha.kept (kb o) fun k h => Nat.lt_of_lt_of_le h (kb o).size) hn hsz
  unfold soundN Mk.it
  dsimp only
  by_cases c4 : kd = 4
  · subst c4
    rw [if_pos rfl, hln]
    obtain ⟨s0, hs0⟩ : ∃ v, (S.toList == []) = v := ⟨_, rfl⟩
    obtain ⟨d0, hd0⟩ : ∃ v, (D.toList == []) = v := ⟨_, rfl⟩
    rw [hs0, hd0]
    clear r1 ha hsz
    by_cases h0 : n = 0
    · subst h0
      rw [decide_eq_true rfl]
      cases s0 <;> cases d0
      all_goals
        go_enter Tryz.func60, Tryz.ntmps60
        go_wp2
        go_ret
        exact ⟨rfl, kb _⟩
    · have hz : ((n : Int) == 0) = false := by
        have : (n : Int) ≠ 0 := by omega
        simpa using this
      rw [decide_eq_false h0]
      cases s0 <;> cases d0
      all_goals
        go_enter Tryz.func60, Tryz.ntmps60
        go_wp2
        go_ret
        exact ⟨rfl, kb _⟩
  · have e4 : ((kd : Int) == 4) = false := by
      have : (kd : Int) ≠ 4 := by omega
      simpa using this
    rw [if_neg c4]
    by_cases c2 : kd = 2
    · subst c2
      by_cases hd : D.toList = []
      · have hd0 : (D.toList == []) = true := by rw [hd]; rfl
        rw [if_pos ⟨rfl, hd⟩]
        have r2 := r1 (.cells #[.int .u8 2, .string S, .string ⟨#[45]⟩, .slice aa n ac, .int .i64 r.up, .slice r.ka r.kn r.kc, .int .i64 r.shadow, .int .i64 r.host, .int .i64 r.content, .bool r.fl.a, .bool r.fl.b, .bool r.fl.c, .bool r.fl.d, .bool r.fl.e] 45) ⟨#[45]⟩ 2 rfl
        obtain ⟨q, hq⟩ : ∃ q, soundL [⟨0, 2, S.toList, l, [45]⟩] = q := ⟨_, rfl⟩
        have e45 : ByteArray.toList ⟨#[45]⟩ = [45] := by rw [ByteArray.toList_eq]
        have hq' : soundL [⟨0, 2, S.toList, l, ByteArray.toList ⟨#[45]⟩⟩] = q := by rw [e45]; exact hq
        rw [hq'] at r2
        rw [hq]
        clear r1 ha hsz hd c4 hq hq' e45
        go_enter Tryz.func60, Tryz.ntmps60
        go_wp2_with fail
        refine r2.mono ?_
        rintro e w1 ⟨rfl, k1⟩
        clear r2
        go_wp2
        go_ret
        exact ⟨rfl, (kb _).trans (k1.mono fun k hk => by simp; omega)⟩
      · have hd0 : (D.toList == []) = false := by simpa using hd
        rw [if_neg (fun h => hd h.2)]
        have r2 := r1 (.cells #[.int .u8 2, .string S, .string D, .slice aa n ac, .int .i64 r.up, .slice r.ka r.kn r.kc, .int .i64 r.shadow, .int .i64 r.host, .int .i64 r.content, .bool r.fl.a, .bool r.fl.b, .bool r.fl.c, .bool r.fl.d, .bool r.fl.e] 45) D 2 rfl
        obtain ⟨q, hq⟩ : ∃ q, soundL [⟨0, 2, S.toList, l, D.toList⟩] = q := ⟨_, rfl⟩
        rw [hq] at r2 ⊢
        clear r1 ha hsz hd c4 hq
        go_enter Tryz.func60, Tryz.ntmps60
        go_wp2_with fail
        refine r2.mono ?_
        rintro e w1 ⟨rfl, k1⟩
        clear r2
        go_wp2
        go_ret
        exact ⟨rfl, (kb _).trans (k1.mono fun k hk => by simp; omega)⟩
    · have e2 : ((kd : Int) == 2) = false := by
        have : (kd : Int) ≠ 2 := by omega
        simpa using this
      rw [if_neg (fun h => c2 h.1)]
      have r2 := r1 (.cells #[.int .u8 (kd : Int), .string S, .string D, .slice aa n ac, .int .i64 r.up, .slice r.ka r.kn r.kc, .int .i64 r.shadow, .int .i64 r.host, .int .i64 r.content, .bool r.fl.a, .bool r.fl.b, .bool r.fl.c, .bool r.fl.d, .bool r.fl.e] 45) D (kd : Int) rfl
      obtain ⟨q, hq⟩ : ∃ q, soundL [⟨0, kd, S.toList, l, D.toList⟩] = q := ⟨_, rfl⟩
      rw [hq] at r2 ⊢
      clear r1 ha hsz c4 c2 hq
      go_enter Tryz.func60, Tryz.ntmps60
      go_wp2_with fail
      refine r2.mono ?_
      rintro e w1 ⟨rfl, k1⟩
      clear r2
      go_wp2
      go_ret
      exact ⟨rfl, (kb _).trans (k1.mono fun k hk => by simp; omega)⟩
end Go.Proofs.YthhoicmfmfeehaaGreat
