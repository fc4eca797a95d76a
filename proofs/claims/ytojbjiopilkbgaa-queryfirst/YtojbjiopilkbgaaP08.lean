/-
 Attributes are copied; what a node may be; makeOne, Make, New.; Doc.makeOne, Doc.Make, New.
-/
import Derived.Test.YtojbjiopilkbgaaP05
import Derived.Test.YtojbjiopilkbgaaP07
import Derived.Test.YtojbjiopilkbgaaP04
import Derived.Laws.EntriesVeiled
import Derived.Deep.RegionHeld3
namespace Go.Proofs.Ytojbjiopilkbgaa
set_option linter.unusedVariables false
set_option maxRecDepth 100000
set_option maxHeartbeats 8000000
section
open Go.RowKit
section
variable {P : Program}
theorem run_appM {K : Nat -> Prop} (w : World) (t tx ty e : TypeId) (i : TypeInfo) (zv : Value) (ht : P.underlying t = some (.slice e)) (hi : P.info? e = some i) (hz : i.zero = some zv) (z : Nat) (hsize : i.size = z) (hzs : zv.cells.size = z) (hby : i.bytes <= 128)
  {ao : Option Addr} {n cap : Nat} {xs : List Value} (hown : OwnZ K w e z ao n cap xs) (x : Value) (m : Nat) (hm0 : 0 < m) (hm : m <= 100000000) (news : List Value) (hs : Src P z tx x m news w)
  (hK : ∀ k, K k -> k < w.heap.size) (hn : n <= 1000000000) :
  ∃ ao' cap' w', (Builtin.append_ #[t, tx] ty #[.slice ao n cap, x]).run P w = .ok (.slice ao' (n + m) cap') w' /\ OwnZ K w' e z ao' (n + m) cap' (xs ++ news) /\ Kept K w w' := by
 subst hsize
 have h63 : n + m <= maxLen := by unfold maxLen; omega
 have hbytes : (n + m) * i.bytes <= 140737488355328 := by
  have : (n + m) * i.bytes <= (1000000000 + 100000000) * 128 := Nat.mul_le_mul (by omega) hby
  omega
 have hnl : news.length = m * i.size := by simpa using hs.newsLen
 obtain ⟨h1, h2, h3, h4⟩ := hown
 have hlen : (xs ++ news).length = (n + m) * i.size := by rw [List.length_append, h1, hnl, Nat.add_mul]
 have grow : cap < n + m -> (Builtin.firstCells i.size n (.slice ao n cap)).run P w.drew = .ok xs.toArray w.drew ->
   ∃ ao' cap' w', (Builtin.append_ #[t, tx] ty #[.slice ao n cap, x]).run P w = .ok (.slice ao' (n + m) cap') w' /\ OwnZ K w' e i.size ao' (n + m) cap' (xs ++ news) /\ Kept K w w' := by
  intro hg hold
  have hr := run_append_grow_src (P := P) w t tx ty e i zv ht hi hz ao n cap xs hold x m news hs hg (by omega) (growslice_fits hg hbytes)
  have hge := grownCap_ge w (n + m) cap e
  refine ⟨_, _, _, hr, ⟨hlen, hge, grownCap_le_maxLen w (n + m) cap e h63, .inr ⟨w.heap.size, _, rfl, fun hk => Nat.lt_irrefl _ (hK _ hk), heap_alloc_new w.drew _, ?_, ?_⟩⟩, (Kept.refl K w).drew.alloc (by simpa using hK) _⟩
  ·rw [Array.size_append, List.size_toArray, hlen, size_zeroCells, hzs, <- Nat.add_mul]
   congr 1
   omega
  ·rw [Array.toList_append]
   rw [<- hlen]
   exact List.take_left
 rcases h4 with ⟨rfl, rfl⟩ | ⟨g, cur, rfl, r2, r3, r4, r5⟩
 ·have hn0 : n = 0 := by omega
  subst hn0
  have hx : xs = [] := List.eq_nil_of_length_eq_zero (by omega)
  subst hx
  exact grow (by omega) (run_firstCells_none w.drew i.size 0 0 0)
 ·have hcells : ∀ j u, xs[j]? = some u -> w.cell? ((⟨g, 0, none⟩ : Addr).add j) = some u := by
   intro j u hj
   have hjl : j < xs.length := by
    rcases Nat.lt_or_ge j xs.length with hl | hg
    ·exact hl
    ·rw [List.getElem?_eq_none hg] at hj; cases hj
   have : (⟨g, 0, none⟩ : Addr).add j = ⟨g, j, none⟩ := by rw [Addr.add_lit, Nat.zero_add]
   rw [this, cell_block r3, <- hj, <- r5, List.getElem?_take, if_pos (by omega), Array.getElem?_toList]
  by_cases hroom : n + m <= cap
  ·have hfit : n * i.size + m * i.size <= cur.size := by
    rw [r4, <- Nat.add_mul]
    exact Nat.mul_le_mul_right _ hroom
   have hr := run_append_room_src (P := P) w t tx ty e i ht hi g 0 n cap x m news hs hroom
    (fun j hj => by rw [cell_block r3]; rw [Array.getElem?_eq_getElem (by omega)]; rfl)
    (fun j hj => frozen_block r3 _)
   rw [Nat.zero_add] at hr
   obtain ⟨c', q1, q2⟩ := heap_setCells_at (b := g) (e := e) (f := (0, 0)) news (n * i.size) w cur r3 (by omega)
   refine ⟨_, _, _, hr, ⟨hlen, hroom, h3, .inr ⟨g, c', rfl, r2, q1, ?_, ?_⟩⟩, ⟨?_, ?_, ?_, ?_, ?_⟩⟩
   ·have := congrArg List.length q2
    rw [List.length_append, List.length_append, List.length_drop, List.length_take] at this
    simp only [Array.length_toList] at this
    omega
   ·rw [q2, r5, <- hlen]
    exact List.take_left
   ·exact World.os_setCells w g _ news
   ·have key : ∀ (vs : List Value) (o : Nat) (v : World), (v.setCells g o vs).tape = v.tape := by
     intro vs
     induction vs with
     | nil => intro o v; rfl
     | cons a r ih => intro o v; rw [World.setCells, ih]; rfl
    exact key news _ w
   ·exact World.output_setCells w g _ news
   ·have key : ∀ (vs : List Value) (o : Nat) (v : World), (v.setCells g o vs).heap.size = v.heap.size := by
     intro vs
     induction vs with
     | nil => intro o v; rfl
     | cons a r ih => intro o v; rw [World.setCells, ih]; simp
    rw [key]; exact Nat.le_refl _
   ·intro k hk
    exact World.heap_setCells_other w g _ news (hK k hk) (fun e => r2 (e ▸ hk))
  ·exact grow (by omega) (run_firstCells_some w.drew i.size n ⟨g, 0, none⟩ n cap xs h1 hcells)
end
theorem infoA : (Try.prog.info? 39).map (fun i => (i.zero, i.size, i.bytes)) = some (some (.agg #[.string ⟨#[]⟩, .string ⟨#[]⟩]), 2, 32) := by kernel_rfl
theorem atr_len (l : List Atr) : (atrCells l).length = l.length * 2 := by
 induction l with
 | nil => rfl
 | cons a r ih =>
  show (sv a.name :: sv a.value :: atrCells r).length = _
  rw [List.length_cons, List.length_cons, ih, List.length_cons]
  omega
theorem atr_one (l : List Atr) : ∀ u ∈ atrCells l, u.oneCell' = true := by
 intro u hu
 obtain ⟨a, _, h⟩ := List.mem_flatMap.1 hu
 simp at h
 rcases h with rfl | rfl <;> rfl
theorem atr_get : ∀ (l : List Atr) (j : Nat) (h : j < l.length), (atrCells l)[j * 2]? = some (sv l[j].name) /\ (atrCells l)[j * 2 + 1]? = some (sv l[j].value)
 | a :: r, 0, _ => ⟨rfl, rfl⟩
 | a :: r, j + 1, h => by
  obtain ⟨h1, h2⟩ := atr_get r j (by simpa using h)
  have e : atrCells (a :: r) = [sv a.name, sv a.value] ++ atrCells r := rfl
  rw [e]
  constructor
  ·rw [List.getElem?_append_right (by simp; omega)]
   simpa [show (j + 1) * 2 - 2 = j * 2 from by omega] using h1
  ·rw [List.getElem?_append_right (by simp; omega)]
   simpa [show (j + 1) * 2 + 1 - 2 = j * 2 + 1 from by omega] using h2
theorem AtsAt.cells {K : Nat -> Prop} {w : World} {aa : Option Addr} {l : List Atr} (h : AtsAt K w aa l) (h0 : 0 < l.length) : ∃ g o, aa = some ⟨g, o, none⟩ /\ K g /\ ∀ j u, (atrCells l)[j]? = some u -> w.cell? ⟨g, o + j, none⟩ = some u := by
 obtain ⟨g, o, e, hg, -, -⟩ := h 0 h0
 refine ⟨g, o, e, hg, fun j u hj => ?_⟩
 have hjl : j < (atrCells l).length := by
  rcases Nat.lt_or_ge j (atrCells l).length with hl | hg
  ·exact hl
  ·rw [List.getElem?_eq_none hg] at hj; cases hj
 rw [atr_len] at hjl
 obtain ⟨g', o', e', -, c0, c1⟩ := h (j / 2) (by omega)
 rw [e] at e'
 injection e' with e'
 injection e' with e1 e2
 subst e1 e2
 obtain ⟨a0, a1⟩ := atr_get l (j / 2) (by omega)
 rcases Nat.mod_two_eq_zero_or_one j with hm | hm
 ·have hj2 : j / 2 * 2 = j := by omega
  rw [hj2] at a0 c0
  rw [a0] at hj
  injection hj with hj
  rw [<- hj]; exact c0
 ·have hj2 : j / 2 * 2 + 1 = j := by omega
  rw [hj2] at a1
  rw [Nat.add_assoc, hj2] at c1
  rw [a1] at hj
  injection hj with hj
  rw [<- hj]; exact c1
theorem OwnZ.atsAt {K K' : Nat -> Prop} {w : World} {ao : Option Addr} {n cap : Nat} {l : List Atr} (h : OwnZ K w 39 2 ao n cap (atrCells l)) (hK : ∀ g, blkOf ao g -> K' g) : AtsAt K' w ao l := by
 intro j hj
 obtain ⟨a0, a1⟩ := atr_get l j hj
 obtain ⟨g, e, c0⟩ := h.cell a0
 obtain ⟨g', e', c1⟩ := h.cell a1
 rw [e] at e'
 injection e' with e'
 injection e' with e1
 subst e1
 exact ⟨g, 0, e, hK g e, by rw [Nat.zero_add]; exact c0, by rw [Nat.zero_add]; exact c1⟩
theorem copyA_any (l : List Atr) (aa : Option Addr) (n ac : Nat) (hln : l.length = n) (hn : n <= 100000000) (w : World) (ha : AtsAt (fun k => k < w.heap.size) w aa l) :
  Calls Try.prog 18 #[.slice aa n ac] w fun e w' => ∃ ao c, e = .returned (.slice ao n c) /\ OwnZ (fun k => k < w.heap.size) w' 39 2 ao n c (atrCells l) /\ Kept (fun k => k < w.heap.size) w w' := by
 obtain ⟨i, hi, hip⟩ := Option.map_eq_some_iff.1 infoA
 have hz : i.zero = _ := congrArg (·.1) hip
 have hsz : i.size = 2 := congrArg (·.2.1) hip
 have hby : i.bytes = 32 := congrArg (·.2.2) hip
 have hl2 : (atrCells l).length = n * 2 := by rw [atr_len, hln]
 have key : ∃ ao c w', (Builtin.append_ #[29, 29] 29 #[.slice none 0 0, .slice aa n ac]).run Try.prog w = .ok (.slice ao n c) w' /\ OwnZ (fun k => k < w.heap.size) w' 39 2 ao n c (atrCells l) /\ Kept (fun k => k < w.heap.size) w w' := by
  by_cases h0 : n = 0
  ·subst h0
   have hl0 : l = [] := List.eq_nil_of_length_eq_zero hln
   subst hl0
   have hs : Src Try.prog i.size 29 (.slice aa 0 ac) 0 [] w := by
    cases aa with
    | none => exact Src.ofNil w Try.underlying29 _
    | some a => exact Src.ofSlice w Try.underlying29 a 0 ac [] (by simp) (fun j u hj => by simp at hj) (fun u hu => by cases hu)
   exact ⟨none, 0, w, run_append_nothing w 29 29 29 39 i Try.underlying29 hi none 0 0 (Nat.le_refl _) _ hs, OwnZ.nil _ _ _ _, Kept.refl _ _⟩
  ·obtain ⟨g, o, rfl, hg, hc⟩ := ha.cells (by omega)
   have hs : Src Try.prog 2 29 (.slice (some ⟨g, o, none⟩) n ac) n (atrCells l) w := by
    refine Src.ofSlice w Try.underlying29 _ n ac (atrCells l) (by rw [hl2]) (fun j u hj => ?_) (atr_one l)
    rw [Addr.add_lit]
    exact hc j u hj
   obtain ⟨ao, c, w', hr, ho, hk⟩ := run_appM (P := Try.prog) (K := fun k => k < w.heap.size) w 29 29 29 39 i _ Try.underlying29 hi hz 2 hsz rfl (by omega) (OwnZ.nil _ _ _ _) _ n (by omega) hn _ hs (fun _ h => h) (by omega)
   rw [Nat.zero_add] at hr ho
   exact ⟨ao, c, w', hr, ho, hk⟩
 obtain ⟨ao, c, w', hr, ho, hk⟩ := key
 have HO : Hid (OwnZ (fun k => k < w.heap.size) w' 39 2 ao n c (atrCells l)) := ho
 have HK : Hid (Kept (fun k => k < w.heap.size) w w') := hk
 clear hip hz hsz hby hl2 ho hk ha hi hln
 go_enter Try.func18, Try.ntmps18
 go_wp2_with (at_builtin; refine wpList_appR (w' := w') rfl (.const (.slice none 0 0)) (.tmp 3) 29 29 rfl _ _ (.slice ao n c) rfl rfl hr ?_)
 go_ret
 exact ⟨ao, c, rfl, HO.out, HK.out⟩
structure Mk where
 kind : Nat
 name : List UInt8
 data : List UInt8
 attrs : List Atr
def Mk.it (x : Mk) : Iz := ⟨0, x.kind, x.name, x.attrs, if x.kind = 2 /\ x.data = [] then [45] else x.data⟩
def soundN (x : Mk) : Bool := if x.kind = 4 then (x.name == [] && x.data == []) && decide (x.attrs.length = 0) else soundL [x.it]
structure Rest where
 up : Int
 ka : Option Addr
 kn : Nat
 kc : Nat
 shadow : Int
 host : Int
 content : Int
 fl : Fg
abbrev nodeV (kd : Nat) (S D : ByteArray) (aa : Option Addr) (an ac : Nat) (r : Rest) : Value := .agg #[.int .u8 (kd : Int), .string S, .string D, .slice aa an ac, .int .i64 r.up, .slice r.ka r.kn r.kc, .int .i64 r.shadow, .int .i64 r.host, .int .i64 r.content, .bool r.fl.a, .bool r.fl.b, .bool r.fl.c, .bool r.fl.d, .bool r.fl.e]
theorem iz1 (w : World) (N : Nat) (hN : w.heap.size = N) (kd : Nat) (kz : Int) (hkz : kz = (kd : Int)) (S D : ByteArray) (l : List Atr) (aa : Option Addr) (n ac : Nat) (hln : l.length = n) (ha : AtsAt (fun k => k < w.heap.size) w aa l) (hn : n <= 100000000) (hsz : ∀ x ∈ l, x.name.length <= 1000000000 /\ x.value.length <= 1000000000) :
  Calls Try.prog 27 #[.slice (some ⟨N, 0, none⟩) 1 1] (w.alloc (.cells #[.int .i64 0, .int .u8 kz, .string S, .string D, .slice aa n ac] 71)) fun e w' => e = .returned (.bool (soundL [⟨0, kd, S.toList, l, D.toList⟩])) /\ Kept (fun k => k < w.heap.size) w w' := by
 subst hkz
 subst hN
 obtain ⟨V, hV⟩ : ∃ V, w.alloc (.cells #[.int .i64 0, .int .u8 (kd : Int), .string S, .string D, .slice aa n ac] 71) = V := ⟨_, rfl⟩
 have kV : Kept (fun k => k < w.heap.size) w V := by rw [<- hV]; exact (Kept.refl _ w).alloc (fun _ h => h) _
 have sV : w.heap.size < V.heap.size := by rw [<- hV]; simp
 rw [hV]
 have hS : (⟨S.toList.toArray⟩ : ByteArray) = S := by
  apply ByteArray.ext
  rw [ByteArray.toList_eq]
 have hD : (⟨D.toList.toArray⟩ : ByteArray) = D := by
  apply ByteArray.ext
  rw [ByteArray.toList_eq]
 have hZ : IzIn V (some ⟨w.heap.size, 0, none⟩) [⟨0, kd, S.toList, l, D.toList⟩] := by
  intro j hj
  have : j = 0 := by simp at hj; omega
  subst this
  refine ⟨w.heap.size, aa, ac, rfl, sV, ha.kept kV fun k h => Nat.lt_of_lt_of_le h kV.size, fun i u hi => ?_⟩
  rw [<- hV, Nat.zero_mul, Nat.zero_add, cell_block (heap_alloc_new w _), <- Array.getElem?_toList]
  simp only [izCells, List.getElem_cons_zero, sv, hS, hD, hln] at hi
  exact hi
 have r := sound_any [⟨0, kd, S.toList, l, D.toList⟩] (some ⟨w.heap.size, 0, none⟩) 1 1 rfl (by decide) (by intro y hy; simp at hy; subst hy; exact ⟨by rw [hln]; exact hn, hsz⟩) V hZ
 exact r.mono fun e w' h => ⟨h.1, kV.trans (h.2.mono fun k hk => Nat.lt_of_lt_of_le hk kV.size)⟩
theorem sound_dom (kd : Nat) (S D : ByteArray) (l : List Atr) (aa : Option Addr) (n ac : Nat) (r : Rest) (hln : l.length = n) (w : World) (ha : AtsAt (fun k => k < w.heap.size) w aa l) (hn : n <= 100000000) (hsz : ∀ x ∈ l, x.name.length <= 1000000000 /\ x.value.length <= 1000000000) :
  Calls Try.prog 17 #[nodeV kd S D aa n ac r] w fun e w' => e = .returned (.bool (soundN ⟨kd, S.toList, D.toList, l⟩)) /\ Kept (fun k => k < w.heap.size) w w' := by
 have kb : ∀ o : Obj, Kept (fun k => k < w.heap.size) w (w.alloc o) := fun o => (Kept.refl _ w).alloc (fun _ h => h) _
 have r1 := fun (o : Obj) (D' : ByteArray) (kz : Int) (hkz : kz = (kd : Int)) => iz1 (w.alloc o) (w.heap.size + 1) (by simp) kd kz hkz S D' l aa n ac hln (ha.kept (kb o) fun k h => Nat.lt_of_lt_of_le h (kb o).size) hn hsz
 unfold soundN Mk.it
 dsimp only
 by_cases c4 : kd = 4
 ·subst c4
  rw [if_pos rfl, hln]
  obtain ⟨s0, hs0⟩ : ∃ v, (S.toList == []) = v := ⟨_, rfl⟩
  obtain ⟨d0, hd0⟩ : ∃ v, (D.toList == []) = v := ⟨_, rfl⟩
  rw [hs0, hd0]
  clear r1 ha hsz
  by_cases h0 : n = 0
  ·subst h0
   rw [decide_eq_true rfl]
   cases s0 <;> cases d0
   all_goals
    go_enter Try.func17, Try.ntmps17
    go_wp2
    go_ret
    exact ⟨rfl, kb _⟩
  ·have hz : ((n : Int) == 0) = false := by
    have : (n : Int) ≠ 0 := by omega
    simpa using this
   rw [decide_eq_false h0]
   cases s0 <;> cases d0
   all_goals
    go_enter Try.func17, Try.ntmps17
    go_wp2
    go_ret
    exact ⟨rfl, kb _⟩
 ·have e4 : ((kd : Int) == 4) = false := by
   have : (kd : Int) ≠ 4 := by omega
   simpa using this
  rw [if_neg c4]
  by_cases c2 : kd = 2
  ·subst c2
   by_cases hd : D.toList = []
   ·have hd0 : (D.toList == []) = true := by rw [hd]; rfl
    rw [if_pos ⟨rfl, hd⟩]
    have r2 := r1 (.cells #[.int .u8 2, .string S, .string ⟨#[45]⟩, .slice aa n ac, .int .i64 r.up, .slice r.ka r.kn r.kc, .int .i64 r.shadow, .int .i64 r.host, .int .i64 r.content, .bool r.fl.a, .bool r.fl.b, .bool r.fl.c, .bool r.fl.d, .bool r.fl.e] 34) ⟨#[45]⟩ 2 rfl
    obtain ⟨q, hq⟩ : ∃ q, soundL [⟨0, 2, S.toList, l, [45]⟩] = q := ⟨_, rfl⟩
    have e45 : ByteArray.toList ⟨#[45]⟩ = [45] := by rw [ByteArray.toList_eq]
    have hq' : soundL [⟨0, 2, S.toList, l, ByteArray.toList ⟨#[45]⟩⟩] = q := by rw [e45]; exact hq
    rw [hq'] at r2
    rw [hq]
    clear r1 ha hsz hd c4 hq hq' e45
    go_enter Try.func17, Try.ntmps17
    go_wp2_with fail
    refine r2.mono ?_
    rintro e w1 ⟨rfl, k1⟩
    clear r2
    go_wp2
    go_ret
    exact ⟨rfl, (kb _).trans (k1.mono fun k hk => by simp; omega)⟩
   ·have hd0 : (D.toList == []) = false := by simpa using hd
    rw [if_neg (fun h => hd h.2)]
    have r2 := r1 (.cells #[.int .u8 2, .string S, .string D, .slice aa n ac, .int .i64 r.up, .slice r.ka r.kn r.kc, .int .i64 r.shadow, .int .i64 r.host, .int .i64 r.content, .bool r.fl.a, .bool r.fl.b, .bool r.fl.c, .bool r.fl.d, .bool r.fl.e] 34) D 2 rfl
    obtain ⟨q, hq⟩ : ∃ q, soundL [⟨0, 2, S.toList, l, D.toList⟩] = q := ⟨_, rfl⟩
    rw [hq] at r2 ⊢
    clear r1 ha hsz hd c4 hq
    go_enter Try.func17, Try.ntmps17
    go_wp2_with fail
    refine r2.mono ?_
    rintro e w1 ⟨rfl, k1⟩
    clear r2
    go_wp2
    go_ret
    exact ⟨rfl, (kb _).trans (k1.mono fun k hk => by simp; omega)⟩
  ·have e2 : ((kd : Int) == 2) = false := by
    have : (kd : Int) ≠ 2 := by omega
    simpa using this
   rw [if_neg (fun h => c2 h.1)]
   have r2 := r1 (.cells #[.int .u8 (kd : Int), .string S, .string D, .slice aa n ac, .int .i64 r.up, .slice r.ka r.kn r.kc, .int .i64 r.shadow, .int .i64 r.host, .int .i64 r.content, .bool r.fl.a, .bool r.fl.b, .bool r.fl.c, .bool r.fl.d, .bool r.fl.e] 34) D (kd : Int) rfl
   obtain ⟨q, hq⟩ : ∃ q, soundL [⟨0, kd, S.toList, l, D.toList⟩] = q := ⟨_, rfl⟩
   rw [hq] at r2 ⊢
   clear r1 ha hsz c4 c2 hq
   go_enter Try.func17, Try.ntmps17
   go_wp2_with fail
   refine r2.mono ?_
   rintro e w1 ⟨rfl, k1⟩
   clear r2
   go_wp2
   go_ret
   exact ⟨rfl, (kb _).trans (k1.mono fun k hk => by simp; omega)⟩
end
section
open Go.RowKit
theorem info66 : (Try.prog.info? 55).map (·.size) = some 22 := by
 obtain ⟨inf, hi, hip⟩ := Option.map_eq_some_iff.1 infoN
 rw [hi]
 exact congrArg some (congrArg (·.2.1) hip)
theorem makeOne_any (K : Nat -> Prop) (p : Nat) (S : Dm) (ga : Option Addr) (cap : Nat) (w0 w : World) (h : DY K w0 p S ga cap) (hk : Kept (fun k => k < w0.heap.size) w0 w) (hn : S.n <= 1000000) (hL : S.limit <= 1000000) (x : Nd) (l q : Lk) (aa : Option Addr) (ac : Nat)
  (ha : OwnZ (fun k => k < w0.heap.size) w 39 2 aa x.attrs.length ac (atrCells x.attrs)) :
  Calls Try.prog 20 #[.pointer (some ⟨p, 0, none⟩), ndV x l q aa ac] w fun e w' => Kept K w0 w' /\ ((S.n + 1 <= S.limit /\ e = .returned (.tuple #[.int .i64 (S.n : Int), .int .u16 0]) /\ DX K w' p (S.add x)) \/ (¬ S.n + 1 <= S.limit /\ e = .returned (.tuple #[.int .i64 0, .int .u16 3]) /\ DX K w' p S)) := by
 obtain ⟨cs, hcs⟩ : ∃ cs : Array Value, (ndCells x l q aa ac).toArray = cs := ⟨_, rfl⟩
 have hsz : cs.size = 22 := by rw [<- hcs]; rfl
 show Calls Try.prog 20 #[_, .agg (ndCells x l q aa ac).toArray] w _
 rw [hcs]
 obtain ⟨W, hW⟩ : ∃ W, w.alloc (.cells cs 55) = W := ⟨_, rfl⟩
 obtain ⟨N, hN⟩ : ∃ N, w.heap.size = N := ⟨_, rfl⟩
 have kW : Kept (fun k => k < w.heap.size) w W := by rw [<- hW]; exact (Kept.refl _ w).alloc (fun _ h => h) _
 have hbW : W.heap[N]? = some (.cells cs 55) := by rw [<- hW, <- hN]; exact heap_alloc_new w _
 have k0W : Kept (fun k => k < w0.heap.size) w0 W := hk.trans (kW.mono fun k h => Nat.lt_of_lt_of_le h hk.size)
 have hYW := h.kept k0W
 have rr := room_any p S.n cap S.limit 1 ga W hYW.c0 hYW.c1 hL hn
 have radd : ∀ X, Kept (fun k => k < W.heap.size) W X -> Calls Try.prog 15 #[.pointer (some ⟨p, 0, none⟩), .agg cs] X fun e w' => e = .returned (.int .i64 (S.n : Int)) /\ DX K w' p (S.add x) /\ Kept K w0 w' := by
  intro X hX
  have k0X : Kept (fun k => k < w0.heap.size) w0 X := k0W.trans (hX.mono fun k h => Nat.lt_of_lt_of_le h k0W.size)
  have := add_any K p S ga cap w0 X h k0X hn x l q aa ac (OwnZ.to ha (fun g hg => (OwnZ.out ha hg).1) (fun g hg => by
   have hgl := (OwnZ.out ha hg).2
   rw [hX.block g (Nat.lt_of_lt_of_le hgl kW.size), kW.block g hgl]))
  rw [<- hcs]
  exact this
 have HR : Hid (∀ X, Kept (fun k => k < W.heap.size) W X -> Calls Try.prog 15 #[.pointer (some ⟨p, 0, none⟩), .agg cs] X fun e w' => e = .returned (.int .i64 (S.n : Int)) /\ DX K w' p (S.add x) /\ Kept K w0 w') := radd
 have HW : Hid (w.alloc (.cells cs 55) = W) := hW
 have HN : Hid (w.heap.size = N) := hN
 have HB : Hid (W.heap[N]? = some (.cells cs 55)) := hbW
 have HY : Hid (DY K w0 p S ga cap) := h
 have HK0 : Hid (Kept (fun k => k < w0.heap.size) w0 W) := k0W
 have hNW : N < W.heap.size := by rw [<- hW, <- hN]; simp
 have hi66 : (Try.prog.info? 55).map (·.size) = some cs.size := by rw [hsz]; exact info66
 by_cases hr : S.n + 1 <= S.limit
 ·rw [decide_eq_true hr] at rr
  have HRM : Hid (S.n + 1 <= S.limit) := hr
  clear h hk ha kW k0W hYW radd hcs hW hN hbW hr
  go_enter Try.func20, Try.ntmps20
  go_upto_region 1 with fail
  rw [HW.out, HN.out]
  go_wp2_with fail
  refine rr.mono ?_
  rintro e w1 ⟨rfl, k1⟩
  have hb1 : w1.heap[N]? = some (.cells cs 55) := by rw [k1.block N hNW]; exact HB.out
  have ra := HR.out w1 k1
  clear rr
  go_wp2_with (first | (refine wpList_load_row rfl 55 _ rfl N rfl 55 cs (0, 0) _ hb1 Try.underlying55 rfl hi66 ?_) | (go_at_call 15; refine ra.mono ?_; rintro e w2 ⟨rfl, hX, hK⟩))
  go_ret2
  exact ⟨hK, .inl ⟨HRM.out, rfl, hX⟩⟩
 ·rw [decide_eq_false hr] at rr
  have HRM : Hid (¬ S.n + 1 <= S.limit) := hr
  clear h hk ha kW k0W hYW radd hcs hW hN hbW hr
  go_enter Try.func20, Try.ntmps20
  go_upto_region 1 with fail
  rw [HW.out, HN.out]
  go_wp2_with fail
  refine rr.mono ?_
  rintro e w1 ⟨rfl, k1⟩
  have HK1 : Hid (Kept (fun k => k < w0.heap.size) w0 w1) := HK0.out.trans (k1.mono fun k h => Nat.lt_of_lt_of_le h HK0.out.size)
  clear rr k1
  go_wp2
  go_ret2
  exact ⟨HK1.out.mono HY.out.1, .inr ⟨HRM.out, rfl, ⟨_, _, HY.out.kept HK1.out⟩⟩⟩
theorem step_callE {P : Program} {w : World} {ops : Array Oper} {o : Oper} {a : Act} {Kn : Act -> World -> Prop} {Q : Exit -> Act -> World -> Prop} {E : Prop} (hgd : o.guard = none) (f : FuncId) (args : Array Operand) (tys : Array TypeId)
  (ho : o.op = .call { callee := .value (.func f), args := args, argTypes := tys }) (vs : Array Value) (hv : args.map a.eval = vs) (hE : (callFunc f vs).run P w = .ok (.enter f vs) w) (R : Ending -> World -> Prop)
  (hc : Calls P f vs w R) (h : ∀ e w', R e w' -> ∃ v, e = .returned v /\ Kn (a.put o.dst v) w') : if Region.wanted o (yielded ops a.tmps) = true then Oper.wp P o a w Kn Q else E := by
 have hw : Region.wanted o (yielded ops a.tmps) = true := by simp [Region.wanted, hgd]
 rw [if_pos hw]
 have e : (execOp a.eval o).run P w = .ok (.enter f vs) w := by
  simp [execOp, ho, resolve, Deferred.ofValue, Act.eval, invoke, hv, hE]
 unfold Oper.wp
 rw [e, Oper.upon_enter]
 refine hc.mono ?_
 intro e w' hR
 obtain ⟨v, rfl, hk⟩ := h e w' hR
 exact hk
theorem entersE {f : FuncId} {fn : Func} {c : Code} (hf : Try.prog.funcs[f]? = some fn) (hname : (fn.name == "runtime.NumGoroutine") = false) (hb : fn.body = some c) (args : Array Value) (w : World) :
  (callFunc f args).run Try.prog w = .ok (.enter f args) w := by
 have hname : ¬ fn.name = "runtime.NumGoroutine" := by simpa using hname
 simp [callFunc, hf, hb, hname]
theorem enter18 (args : Array Value) (X : World) : (callFunc 18 args).run Try.prog X = .ok (.enter 18 args) X := entersE Try.func18 (by kernel_rfl) (c := _) rfl args X
theorem yields_build {P : Program} {o : Oper} {a : Act} {X : World} (t : TypeId) (parts : Array (Nat × Operand)) (ho : o.op = .build t parts) (cells : Array Value) (h : P.built t (parts.map fun (i, x) => (i, a.eval x)).toList = some cells) : (execOp a.eval o).run P X = .ok (.value (.agg cells)) X := by
 unfold execOp
 simp only [ho, Sem.run_bind, run_build X t _ cells h, Result.andThen_ok, Sem.run_pure]
theorem step_store22 {ops : Array Oper} {o : Oper} {a : Act} {w : World} {Kn : Act -> World -> Prop} {Q : Exit -> Act -> World -> Prop} {E : Prop} (hgd : o.guard = none) (x y : Operand) (ho : o.op = .store 55 x y)
  (g : Nat) (cells : Array Value) (hx : a.eval x = .pointer (some ⟨g, 0, none⟩)) (hy : a.eval y = .agg cells) (old : Array Value) (hg : w.heap[g]? = some (.cells old 55 (0, 0))) (hc : cells.size = 22) (hold : old.size = 22) (h1 : cells.all (·.oneCell') = true)
  (h : Kn (a.put o.dst undef) (w.setRow g cells)) : if Region.wanted o (yielded ops a.tmps) = true then Oper.wp Try.prog o a w Kn Q else E := by
 have hw : Region.wanted o (yielded ops a.tmps) = true := by simp [Region.wanted, hgd]
 rw [if_pos hw]
 exact wp_store_row 55 x y ho g cells hx hy 55 old hg (by rw [hc]; exact info66) (by rw [hold, hc]) h1 h
abbrev zeroN : Array Value := #[.int .u8 0, .string ⟨#[]⟩, .string ⟨#[]⟩, .slice none 0 0, .bool false, .bool false, .bool false, .bool false, .bool false, .int .i64 0, .int .i64 0, .int .i64 0, .int .i64 0, .int .i64 0, .int .i64 0, .int .i64 0, .int .i64 0, .int .i64 0, .int .i64 0, .int .i64 0, .int .i64 0, .int .i64 0]
theorem step_alloc22 {ops : Array Oper} {o : Oper} {a : Act} {w : World} {Kn : Act -> World -> Prop} {Q : Exit -> Act -> World -> Prop} {E : Prop} (hgd : o.guard = none) (ho : o.op = .alloc 55)
  (h : Kn (a.put o.dst (.pointer (some ⟨w.heap.size, 0, none⟩))) (w.alloc (.cells zeroN 55))) : if Region.wanted o (yielded ops a.tmps) = true then Oper.wp Try.prog o a w Kn Q else E := by
 have hw : Region.wanted o (yielded ops a.tmps) = true := by simp [Region.wanted, hgd]
 rw [if_pos hw]
 obtain ⟨inf, hi, hip⟩ := Option.map_eq_some_iff.1 infoN
 have hz : inf.zero = _ := congrArg (·.1) hip
 have e : (Instr.alloc 55 true (.tuple #[])).run Try.prog w = .ok (.pointer (some ⟨w.heap.size, 0, none⟩)) (w.alloc (.cells zeroN 55)) := by
  simp [Instr.alloc, zeroValue, typeInfo, hi, hz, newVar, newRow, Value.cells]
 unfold Oper.wp execOp
 simp only [ho, Sem.run_bind, e, Result.andThen_ok, Sem.run_pure]
 exact h
def lk0 : Lk := ⟨0, 0, 0, 0, 0⟩
def Mk.nd (x : Mk) : Nd := ⟨x.kind, x.name, x.data, x.attrs, ⟨false, false, false, false, false⟩, 0, 0, 0⟩
abbrev madeC (kd : Nat) (S D : ByteArray) (ao : Option Addr) (n c : Nat) : Array Value := #[.int .u8 (kd : Int), .string S, .string D, .slice ao n c, .bool false, .bool false, .bool false, .bool false, .bool false, .int .i64 0, .int .i64 0, .int .i64 0, .int .i64 0, .int .i64 0, .int .i64 0, .int .i64 0, .int .i64 0, .int .i64 0, .int .i64 0, .int .i64 0, .int .i64 0, .int .i64 0]
theorem built66 (kd : Nat) (S D : ByteArray) (ao : Option Addr) (n c : Nat) : Try.prog.built 55 [(0, .int .u8 (kd : Int)), (1, .string S), (2, .string D), (3, .slice ao n c)] = some (madeC kd S D ao n c) := by kernel_rfl
theorem madeC_one (kd : Nat) (S D : ByteArray) (ao : Option Addr) (n c : Nat) : (madeC kd S D ao n c).all (·.oneCell') = true := by kernel_rfl
def Made (W : World) (kd : Nat) (S D : ByteArray) (l : List Atr) (n : Nat) (v : Value) (wx : World) : Prop :=
 ∃ (b : Nat) (ao : Option Addr) (c : Nat), v = .pointer (some ⟨b, 0, none⟩) /\ wx.heap[b]? = some (.cells (madeC kd S D ao n c) 55) /\ OwnZ (fun k => k < W.heap.size) wx 39 2 ao n c (atrCells l) /\ W.heap.size <= b /\ ¬ blkOf ao b /\ Kept (fun k => k < W.heap.size) W wx
theorem kept_setRow {K : Nat -> Prop} {a w : World} (h : Kept K a w) {g : Nat} (hg : ¬ K g) (cs : Array Value) : Kept K a (w.setRow g cs) :=
 ⟨h.os, h.tape, h.output, by rw [setRow_size]; exact h.size, fun k hk => by rw [setRow_other _ _ _ _ (fun e => hg (by rw [<- e]; exact hk))]; exact h.block k hk⟩
theorem made1 {W Y X0 : World} {kd : Nat} {S D : ByteArray} {l : List Atr} {n : Nat} {ao : Option Addr} {c : Nat} (hO : OwnZ (fun k => k < X0.heap.size) Y 39 2 ao n c (atrCells l)) (hX : W.heap.size <= X0.heap.size) (hYs : W.heap.size <= Y.heap.size) (hH : Kept (fun k => k < W.heap.size) W (Y.alloc (.cells zeroN 55))) :
  Made W kd S D l n (.pointer (some ⟨Y.heap.size, 0, none⟩)) ((Y.alloc (.cells zeroN 55)).setRow Y.heap.size (madeC kd S D ao n c)) := by
 refine ⟨Y.heap.size, ao, c, rfl, setRow_heap _ _ _ _ _ _ (heap_alloc_new Y _), ?_, hYs, fun hb => Nat.lt_irrefl _ (OwnZ.out hO hb).2, kept_setRow hH (fun h => Nat.lt_irrefl _ (Nat.lt_of_lt_of_le h hYs)) _⟩
 refine OwnZ.to hO (fun g hg hh => (OwnZ.out hO hg).1 (Nat.lt_of_lt_of_le hh hX)) (fun g hg => ?_)
 have hl := (OwnZ.out hO hg).2
 rw [setRow_other _ _ _ _ (by omega), Below.heap_alloc _ _ _ hl]
theorem made2 {W X Y : World} {kd : Nat} {S D : ByteArray} {l : List Atr} {n : Nat} {ao : Option Addr} {c : Nat} (hO : OwnZ (fun k => k < (X.alloc (.cells zeroN 55)).heap.size) Y 39 2 ao n c (atrCells l)) (hX : W.heap.size <= X.heap.size) (hb : Y.heap[X.heap.size]? = some (.cells zeroN 55)) (hH : Kept (fun k => k < W.heap.size) W Y) :
  Made W kd S D l n (.pointer (some ⟨X.heap.size, 0, none⟩)) (Y.setRow X.heap.size (madeC kd S D ao n c)) := by
 have hs : (X.alloc (.cells zeroN 55)).heap.size = X.heap.size + 1 := by simp
 have hne : ∀ g, blkOf ao g -> g ≠ X.heap.size := fun g hg e => (OwnZ.out hO hg).1 (by rw [hs, e]; omega)
 refine ⟨X.heap.size, ao, c, rfl, setRow_heap _ _ _ _ _ _ hb, ?_, hX, fun hb => hne _ hb rfl, kept_setRow hH (fun h => Nat.lt_irrefl _ (Nat.lt_of_lt_of_le h hX)) _⟩
 refine OwnZ.to hO (fun g hg hh => (OwnZ.out hO hg).1 (by rw [hs]; omega)) (fun g hg => ?_)
 rw [setRow_other _ _ _ _ (hne g hg)]
theorem bytes_mk (S : ByteArray) : (⟨S.toList.toArray⟩ : ByteArray) = S := by
 apply ByteArray.ext
 rw [ByteArray.toList_eq]
theorem made_nd (kd : Nat) (S D : ByteArray) (l : List Atr) (ao : Option Addr) (n c : Nat) (hln : l.length = n) : (ndCells (Mk.nd ⟨kd, S.toList, D.toList, l⟩) lk0 lk0 ao c).toArray = madeC kd S D ao n c := by
 subst hln
 simp only [ndCells, Mk.nd, sv, bytes_mk]
 rfl
def frag0 : Nd := ⟨4, [], [], [], ⟨false, false, false, false, false⟩, 0, 0, 0⟩
def Dm.addT (M : Dm) (x : Nd) : Dm := (((M.add x).add frag0).setN M.n { ((M.add x).add frag0).nd M.n with content := ((M.n + 1 : Nat) : Int) }).setN (M.n + 1) { (((M.add x).add frag0).setN M.n { ((M.add x).add frag0).nd M.n with content := ((M.n + 1 : Nat) : Int) }).nd (M.n + 1) with host := (M.n : Int) }
theorem make_go (K : Nat -> Prop) (p : Nat) (kd : Nat) (S D : ByteArray) (l : List Atr) (aa : Option Addr) (n ac : Nat) (r : Rest) (w : World) (M : Dm) (ga : Option Addr) (cap : Nat) (hY0 : DY K w p M ga cap) (hMn : M.n <= 100000) (hML : M.limit <= 100000) (hln : l.length = n) (hn : n <= 100000000) (ha : AtsAt (fun k => k < w.heap.size) w aa l)
  (rs : Calls Try.prog 17 #[nodeV kd S D aa n ac r] (w.alloc (.cells #[.int .u8 (kd : Int), .string S, .string D, .slice aa n ac, .int .i64 r.up, .slice r.ka r.kn r.kc, .int .i64 r.shadow, .int .i64 r.host, .int .i64 r.content, .bool r.fl.a, .bool r.fl.b, .bool r.fl.c, .bool r.fl.d, .bool r.fl.e] 34)) fun e w' => e = .returned (.bool true) /\ Kept (fun k => k < (w.alloc (.cells #[.int .u8 (kd : Int), .string S, .string D, .slice aa n ac, .int .i64 r.up, .slice r.ka r.kn r.kc, .int .i64 r.shadow, .int .i64 r.host, .int .i64 r.content, .bool r.fl.a, .bool r.fl.b, .bool r.fl.c, .bool r.fl.d, .bool r.fl.e] 34)).heap.size) (w.alloc (.cells #[.int .u8 (kd : Int), .string S, .string D, .slice aa n ac, .int .i64 r.up, .slice r.ka r.kn r.kc, .int .i64 r.shadow, .int .i64 r.host, .int .i64 r.content, .bool r.fl.a, .bool r.fl.b, .bool r.fl.c, .bool r.fl.d, .bool r.fl.e] 34)) w') :
  Calls Try.prog 7 #[.pointer (some ⟨p, 0, none⟩), nodeV kd S D aa n ac r] w fun e w' => Kept K w w' /\ (if (decide (kd = 1) && S.toList == [116, 101, 109, 112, 108, 97, 116, 101]) = true then ((M.n + 2 <= M.limit /\ e = .returned (.tuple #[.int .i64 (M.n : Int), .int .u16 0]) /\ DX K w' p (M.addT (Mk.nd ⟨kd, S.toList, D.toList, l⟩))) \/ (¬ M.n + 2 <= M.limit /\ e = .returned (.tuple #[.int .i64 0, .int .u16 3]) /\ DX K w' p M)) else ((M.n + 1 <= M.limit /\ e = .returned (.tuple #[.int .i64 (M.n : Int), .int .u16 0]) /\ DX K w' p (M.add (Mk.nd ⟨kd, S.toList, D.toList, l⟩))) \/ (¬ M.n + 1 <= M.limit /\ e = .returned (.tuple #[.int .i64 0, .int .u16 3]) /\ DX K w' p M))) := by
 obtain ⟨tm, htm⟩ : ∃ b, (decide (kd = 1) && S.toList == [116, 101, 109, 112, 108, 97, 116, 101]) = b := ⟨_, rfl⟩
 rw [htm]
 have HTM : Hid ((decide (kd = 1) && S.toList == [116, 101, 109, 112, 108, 97, 116, 101]) = tm) := htm
 clear htm
 obtain ⟨W, hW⟩ : ∃ W, w.alloc (.cells #[.int .u8 (kd : Int), .string S, .string D, .slice aa n ac, .int .i64 r.up, .slice r.ka r.kn r.kc, .int .i64 r.shadow, .int .i64 r.host, .int .i64 r.content, .bool r.fl.a, .bool r.fl.b, .bool r.fl.c, .bool r.fl.d, .bool r.fl.e] 34) = W := ⟨_, rfl⟩
 obtain ⟨N, hN⟩ : ∃ N, w.heap.size = N := ⟨_, rfl⟩
 have kW : Kept (fun k => k < w.heap.size) w W := by rw [<- hW]; exact (Kept.refl _ w).alloc (fun _ h => h) _
 have hb : W.heap[N]? = some (.cells #[.int .u8 (kd : Int), .string S, .string D, .slice aa n ac, .int .i64 r.up, .slice r.ka r.kn r.kc, .int .i64 r.shadow, .int .i64 r.host, .int .i64 r.content, .bool r.fl.a, .bool r.fl.b, .bool r.fl.c, .bool r.fl.d, .bool r.fl.e] 34) := by rw [<- hW, <- hN]; exact heap_alloc_new w _
 have hNW : N < W.heap.size := lt_block hb
 have c0 : W.cell? ⟨N, 0, none⟩ = some (.int .u8 (kd : Int)) := by rw [cell_block hb]; rfl
 have c1 : W.cell? ⟨N, 1, none⟩ = some (.string S) := by rw [cell_block hb]; rfl
 have c2 : W.cell? ⟨N, 2, none⟩ = some (.string D) := by rw [cell_block hb]; rfl
 have c3 : W.cell? ⟨N, 3, none⟩ = some (.slice aa n ac) := by rw [cell_block hb]; rfl
 have hYW := hY0.kept kW
 have HYW : Hid (DY K W p M ga cap) := hYW
 have HKW : Hid (Kept K w W) := kW.mono hY0.1
 have HLN : Hid (l.length = n) := hln
 have RC : Hid (∀ X, Kept (fun k => k < W.heap.size) W X -> Calls Try.prog 18 #[.slice aa n ac] X fun e w' => ∃ ao c, e = .returned (.slice ao n c) /\ OwnZ (fun k => k < X.heap.size) w' 39 2 ao n c (atrCells l) /\ Kept (fun k => k < X.heap.size) X w') := fun X hX => copyA_any l aa n ac hln hn X ((ha.kept kW fun k h => Nat.lt_of_lt_of_le h kW.size).kept hX fun k h => Nat.lt_of_lt_of_le h hX.size)
 have HW : Hid (w.alloc (.cells #[.int .u8 (kd : Int), .string S, .string D, .slice aa n ac, .int .i64 r.up, .slice r.ka r.kn r.kc, .int .i64 r.shadow, .int .i64 r.host, .int .i64 r.content, .bool r.fl.a, .bool r.fl.b, .bool r.fl.c, .bool r.fl.d, .bool r.fl.e] 34) = W) := hW
 have HN : Hid (w.heap.size = N) := hN
 have rs' : Calls Try.prog 17 #[nodeV kd S D aa n ac r] W fun e w' => e = .returned (.bool true) /\ Kept (fun k => k < W.heap.size) W w' := by rw [<- hW]; exact rs
 clear rs hW hN kW hb ha hYW hY0 hln
 go_enter Try.func7, Try.ntmps7
 go_wp2_with fail
 rw [HW.out, HN.out]
 clear HW HN
 refine rs'.mono ?_
 rintro e w2 ⟨rfl, k2⟩
 clear rs'
 go_upto_region 3 with fail
 go_cut [6] (fun v6 wx => Made W kd S D l n v6 wx)
 case first =>
  refine wp_region_held_drew (S := fun X => Kept (fun k => k < W.heap.size) W X) (by kernel_rfl) k2.drew (fun hHeld => ?_)
  refine tkH 0 12 (.pointer (some ⟨N, 0, none⟩)) rfl rfl (by kernel_rfl) (by rfl) (by intro X hX; go_simp; try with_reducible rfl) (fun _ _ _ h => h) hHeld ?_
  try simp only [Act.put, sA, s0, s1]
  refine tkH 1 13 (.int .u8 (kd : Int)) rfl rfl (by kernel_rfl) (by rfl) (by intro X hX; have hc := (hX.cell (p := ⟨N, 0, none⟩) hNW).trans c0; go_simp; try with_reducible rfl) (fun _ _ _ h => h) hHeld ?_
  try simp only [Act.put, sA, s0, s1]
  refine tkH 2 14 (.pointer (some ⟨N, 1, none⟩)) rfl rfl (by kernel_rfl) (by rfl) (by intro X hX; go_simp; try with_reducible rfl) (fun _ _ _ h => h) hHeld ?_
  try simp only [Act.put, sA, s0, s1]
  refine tkH 3 15 (.string S) rfl rfl (by kernel_rfl) (by rfl) (by intro X hX; have hc := (hX.cell (p := ⟨N, 1, none⟩) hNW).trans c1; go_simp; try with_reducible rfl) (fun _ _ _ h => h) hHeld ?_
  try simp only [Act.put, sA, s0, s1]
  refine tkH 4 16 (.pointer (some ⟨N, 2, none⟩)) rfl rfl (by kernel_rfl) (by rfl) (by intro X hX; go_simp; try with_reducible rfl) (fun _ _ _ h => h) hHeld ?_
  try simp only [Act.put, sA, s0, s1]
  refine tkH 5 17 (.string D) rfl rfl (by kernel_rfl) (by rfl) (by intro X hX; have hc := (hX.cell (p := ⟨N, 2, none⟩) hNW).trans c2; go_simp; try with_reducible rfl) (fun _ _ _ h => h) hHeld ?_
  try simp only [Act.put, sA, s0, s1]
  refine tkH 6 18 (.pointer (some ⟨N, 3, none⟩)) rfl rfl (by kernel_rfl) (by rfl) (by intro X hX; go_simp; try with_reducible rfl) (fun _ _ _ h => h) hHeld ?_
  try simp only [Act.put, sA, s0, s1]
  refine tkH 7 19 (.slice aa n ac) rfl rfl (by kernel_rfl) (by rfl) (by intro X hX; have hc := (hX.cell (p := ⟨N, 3, none⟩) hNW).trans c3; go_simp; try with_reducible rfl) (fun _ _ _ h => h) hHeld ?_
  try simp only [Act.put, sA, s0, s1]
  refine wpAnyH_ready (rs := [8, 10]) (by kernel_rfl) (by simp) ?_
  refine AllReadyH.cons (o := { dst := some 20, op := Op.call { callee := Callee.value (Operand.func 18), args := #[Operand.tmp 19], argTypes := #[29] }, type := 29, pos := "make.go:13", after := #[{ on := 7, ground := Ground.data }], guard := none }) rfl (fun Kx hK => ?_) (AllReadyH.cons (o := { dst := some 6, op := Op.alloc 55, type := 0, pos := "make.go:13", after := #[], guard := none }) rfl (fun Kx hK => ?_) AllReadyH.nil)
  ·have hWX := hHeld.size
   refine step_callE rfl 18 #[.tmp 19] #[29] rfl #[.slice aa n ac] (by first | (simp [Act.eval]; done) | (simp [Act.eval, Act.put]; done)) (enter18 _ _) _ (RC.out _ hHeld) ?_
   rintro e Y ⟨ao, c, rfl, hO, hKY⟩
   refine ⟨_, rfl, hK.out _ _ (hHeld.trans (hKY.mono fun k hk => Nat.lt_of_lt_of_le hk hHeld.size)) (fun hHeld2 => ?_)⟩
   clear hK Kx hHeld
   replace hHeld := hHeld2
   clear hHeld2
   try simp only [Act.put, sA, s0, s1]
   refine tkH 9 21 (.agg (madeC kd S D ao n c)) rfl rfl (by kernel_rfl) (by rfl) (by intro X hX; refine yields_build 55 _ rfl (madeC kd S D ao n c) ?_; simp only [List.map_toArray, List.map_cons, List.map_nil, Act.eval]; exact built66 kd S D ao n c) (fun _ _ _ h => h) hHeld ?_
   try simp only [Act.put, sA, s0, s1]
   refine wpAnyH_ready (rs := [10]) (by kernel_rfl) (by simp) ?_
   refine AllReadyH.cons (o := { dst := some 6, op := Op.alloc 55, type := 0, pos := "make.go:13", after := #[], guard := none }) rfl (fun Kx hK => ?_) AllReadyH.nil
   refine step_alloc22 rfl rfl ?_
   have hYs : W.heap.size <= Y.heap.size := hHeld.size
   refine hK.out _ _ (hHeld.alloc (fun k hk => Nat.lt_of_lt_of_le hk hYs) _) (fun hHeld2 => ?_)
   clear hK Kx hHeld
   replace hHeld := hHeld2
   clear hHeld2
   try simp only [Act.put, sA, s0, s1]
   refine wpAnyH_ready (rs := [11]) (by kernel_rfl) (by simp) ?_
   refine AllReadyH.cons (o := { dst := none, op := Op.store 55 (Operand.tmp 6) (Operand.tmp 21), type := 0, pos := "make.go:13", after := #[{ on := 10, ground := Ground.data }, { on := 9, ground := Ground.data }, { on := 8, ground := Ground.chain }, { on := 0, ground := Ground.phase }, { on := 1, ground := Ground.phase }, { on := 2, ground := Ground.phase }, { on := 3, ground := Ground.phase }, { on := 4, ground := Ground.phase }, { on := 5, ground := Ground.phase }, { on := 6, ground := Ground.phase }, { on := 7, ground := Ground.phase }, { on := 8, ground := Ground.phase }, { on := 9, ground := Ground.phase }, { on := 10, ground := Ground.phase }], guard := none }) rfl (fun Kx hK => ?_) AllReadyH.nil
   refine step_store22 rfl (.tmp 6) (.tmp 21) rfl Y.heap.size (madeC kd S D ao n c) rfl rfl zeroN (heap_alloc_new Y _) rfl rfl (madeC_one _ _ _ _ _ _) ?_
   refine hK.out _ _ ?_ (fun hHeld2 => ?_)
   ·exact kept_setRow hHeld (fun h => Nat.lt_irrefl _ (Nat.lt_of_lt_of_le h hYs)) _
   clear hK Kx
   refine wpAnyH_done (by kernel_rfl) ?_ _
   try simp only [Act.put]
   go_wp2_with fail
   go_meet
   case rel => exact made1 hO hWX hYs hHeld
  ·have hWX := hHeld.size
   refine step_alloc22 rfl rfl ?_
   refine hK.out _ _ (hHeld.alloc (fun k hk => Nat.lt_of_lt_of_le hk hWX) _) (fun hHeld2 => ?_)
   clear hK Kx hHeld
   replace hHeld := hHeld2
   clear hHeld2
   try simp only [Act.put, sA, s0, s1]
   refine wpAnyH_ready (rs := [8]) (by kernel_rfl) (by simp) ?_
   refine AllReadyH.cons (o := { dst := some 20, op := Op.call { callee := Callee.value (Operand.func 18), args := #[Operand.tmp 19], argTypes := #[29] }, type := 29, pos := "make.go:13", after := #[{ on := 7, ground := Ground.data }], guard := none }) rfl (fun Kx hK => ?_) AllReadyH.nil
   refine step_callE rfl 18 #[.tmp 19] #[29] rfl #[.slice aa n ac] (by first | (simp [Act.eval]; done) | (simp [Act.eval, Act.put]; done)) (enter18 _ _) _ (RC.out _ hHeld) ?_
   rintro e Y ⟨ao, c, rfl, hO, hKY⟩
   refine ⟨_, rfl, hK.out _ _ (hHeld.trans (hKY.mono fun k hk => Nat.lt_of_lt_of_le hk hHeld.size)) (fun hHeld2 => ?_)⟩
   clear hK Kx hHeld
   replace hHeld := hHeld2
   clear hHeld2
   try simp only [Act.put, sA, s0, s1]
   have hbY := (hKY.block w2.drew.heap.size (by simp)).trans (heap_alloc_new w2.drew _)
   refine tkH 9 21 (.agg (madeC kd S D ao n c)) rfl rfl (by kernel_rfl) (by rfl) (by intro X hX; refine yields_build 55 _ rfl (madeC kd S D ao n c) ?_; simp only [List.map_toArray, List.map_cons, List.map_nil, Act.eval]; exact built66 kd S D ao n c) (fun _ _ _ h => h) hHeld ?_
   try simp only [Act.put, sA, s0, s1]
   refine wpAnyH_ready (rs := [11]) (by kernel_rfl) (by simp) ?_
   refine AllReadyH.cons (o := { dst := none, op := Op.store 55 (Operand.tmp 6) (Operand.tmp 21), type := 0, pos := "make.go:13", after := #[{ on := 10, ground := Ground.data }, { on := 9, ground := Ground.data }, { on := 8, ground := Ground.chain }, { on := 0, ground := Ground.phase }, { on := 1, ground := Ground.phase }, { on := 2, ground := Ground.phase }, { on := 3, ground := Ground.phase }, { on := 4, ground := Ground.phase }, { on := 5, ground := Ground.phase }, { on := 6, ground := Ground.phase }, { on := 7, ground := Ground.phase }, { on := 8, ground := Ground.phase }, { on := 9, ground := Ground.phase }, { on := 10, ground := Ground.phase }], guard := none }) rfl (fun Kx hK => ?_) AllReadyH.nil
   refine step_store22 rfl (.tmp 6) (.tmp 21) rfl w2.drew.heap.size (madeC kd S D ao n c) rfl rfl zeroN hbY rfl rfl (madeC_one _ _ _ _ _ _) ?_
   refine hK.out _ _ ?_ (fun hHeld2 => ?_)
   ·exact kept_setRow hHeld (fun h => Nat.lt_irrefl _ (Nat.lt_of_lt_of_le h hWX)) _
   clear hK Kx
   refine wpAnyH_done (by kernel_rfl) ?_ _
   try simp only [Act.put]
   go_wp2_with fail
   go_meet
   case rel => exact made2 hO hWX hbY hHeld
 case rest =>
  obtain ⟨b, ao, c, rfl, hb, hO, hWb, hab, hKc⟩ := hcut
  have q0 : wc.cell? ⟨b, 0, none⟩ = some (.int .u8 (kd : Int)) := by rw [cell_block hb]; rfl
  have q1 : wc.cell? ⟨b, 0 + 1, none⟩ = some (.string S) := by rw [cell_block hb]; rfl
  have re := isElement_any b 0 kd S ⟨#[116, 101, 109, 112, 108, 97, 116, 101]⟩ wc q0 q1
  have e8 : ByteArray.toList ⟨#[116, 101, 109, 112, 108, 97, 116, 101]⟩ = [116, 101, 109, 112, 108, 97, 116, 101] := by rw [ByteArray.toList_eq]
  rw [e8] at re
  have HB : Hid (wc.heap[b]? = some (.cells (madeC kd S D ao n c) 55)) := hb
  have HO : Hid (OwnZ (fun k => k < W.heap.size) wc 39 2 ao n c (atrCells l)) := hO
  have HKC : Hid (Kept (fun k => k < W.heap.size) W wc) := hKc
  have hi66 : (Try.prog.info? 55).map (·.size) = some (madeC kd S D ao n c).size := info66
  have HO' : Hid (OwnZ (fun k => k < W.heap.size) wc 39 2 ao (Mk.nd ⟨kd, S.toList, D.toList, l⟩).attrs.length c (atrCells (Mk.nd ⟨kd, S.toList, D.toList, l⟩).attrs)) := by
   show OwnZ _ wc 39 2 ao l.length c (atrCells l)
   rw [HLN.out]; exact hO
  rw [HTM.out] at re
  clear q0 q1 e8 hO hKc HTM c0 c1 c2 c3 RC
  cases tm with
  | false =>
   have rm := makeOne_any K p M ga cap W wc HYW.out HKC.out (by omega) (by omega) (Mk.nd ⟨kd, S.toList, D.toList, l⟩) lk0 lk0 ao c HO'.out
   have rm' : Calls Try.prog 20 #[.pointer (some ⟨p, 0, none⟩), .agg (madeC kd S D ao n c)] wc fun e w' => Kept K W w' /\ ((M.n + 1 <= M.limit /\ e = .returned (.tuple #[.int .i64 (M.n : Int), .int .u16 0]) /\ DX K w' p (M.add (Mk.nd ⟨kd, S.toList, D.toList, l⟩))) \/ (¬ M.n + 1 <= M.limit /\ e = .returned (.tuple #[.int .i64 0, .int .u16 3]) /\ DX K w' p M)) := by
    rw [<- made_nd kd S D l ao n c HLN.out]; exact rm
   clear rm
   obtain ⟨cs, hcs⟩ : ∃ cs, madeC kd S D ao n c = cs := ⟨_, rfl⟩
   rw [hcs] at rm' hb hi66
   clear hcs
   have HM : Hid (Calls Try.prog 20 #[.pointer (some ⟨p, 0, none⟩), .agg cs] wc fun e w' => Kept K W w' /\ ((M.n + 1 <= M.limit /\ e = .returned (.tuple #[.int .i64 (M.n : Int), .int .u16 0]) /\ DX K w' p (M.add (Mk.nd ⟨kd, S.toList, D.toList, l⟩))) \/ (¬ M.n + 1 <= M.limit /\ e = .returned (.tuple #[.int .i64 0, .int .u16 3]) /\ DX K w' p M))) := rm'
   clear rm'
   go_wp2_with (first | (go_at_call 19; refine re.mono ?_; rintro e w3 ⟨rfl, hw3⟩; replace hw3 := hw3.symm; subst hw3) | (refine wpList_load_row rfl 55 _ rfl b rfl 55 cs (0, 0) _ hb Try.underlying55 rfl hi66 ?_))
   refine HM.out.mono ?_
   rintro e w4 ⟨hK4, ⟨hr, rfl, hX⟩ | ⟨hr, rfl, hX⟩⟩
   ·have HR : Hid (M.n + 1 <= M.limit) := hr
    have HX : Hid (DX K w4 p (M.add (Mk.nd ⟨kd, S.toList, D.toList, l⟩))) := hX
    clear hr hX
    go_wp2
    go_ret2
    exact ⟨HKW.out.trans hK4, .inl ⟨HR.out, rfl, HX.out⟩⟩
   ·have HR : Hid (¬ M.n + 1 <= M.limit) := hr
    have HX : Hid (DX K w4 p M) := hX
    clear hr hX
    go_wp2
    go_ret2
    exact ⟨HKW.out.trans hK4, .inr ⟨by have := HR.out; omega, rfl, HX.out⟩⟩
  | true =>
   have hYc := HYW.out.kept HKC.out
   have rr := room_any p M.n cap M.limit 2 ga wc hYc.c0 hYc.c1 (by omega) (by omega)
   obtain ⟨cs, hcs⟩ : ∃ cs, madeC kd S D ao n c = cs := ⟨_, rfl⟩
   have HCS : Hid (madeC kd S D ao n c = cs) := hcs
   rw [hcs] at hb hi66
   clear hcs hYc
   by_cases hr : M.n + 2 <= M.limit
   ·rw [decide_eq_true hr] at rr
    have HR : Hid (M.n + 2 <= M.limit) := hr
    clear hr
    go_wp2_with (first | (go_at_call 19; refine re.mono ?_; rintro e w3 ⟨rfl, hw3⟩; replace hw3 := hw3.symm; subst hw3))
    refine rr.mono ?_
    rintro e w3 ⟨rfl, k3⟩
    have hbl := lt_block hb
    have hb3 : w3.heap[b]? = some (.cells cs 55) := by rw [k3.block b hbl]; exact hb
    have hk3 : Kept (fun k => k < W.heap.size) W w3 := HKC.out.trans (k3.mono fun k h => Nat.lt_of_lt_of_le h HKC.out.size)
    have ho3 : OwnZ (fun k => k < W.heap.size) w3 39 2 ao (Mk.nd ⟨kd, S.toList, D.toList, l⟩).attrs.length c (atrCells (Mk.nd ⟨kd, S.toList, D.toList, l⟩).attrs) := OwnZ.to HO'.out (fun g hg => (OwnZ.out HO'.out hg).1) (fun g hg => k3.block g (OwnZ.out HO'.out hg).2)
    have r1 := add_any K p M ga cap W w3 HYW.out hk3 (by omega) (Mk.nd ⟨kd, S.toList, D.toList, l⟩) lk0 lk0 ao c ho3
    have r1' : Calls Try.prog 15 #[.pointer (some ⟨p, 0, none⟩), .agg cs] w3 fun e w' => e = .returned (.int .i64 (M.n : Int)) /\ DX K w' p (M.add (Mk.nd ⟨kd, S.toList, D.toList, l⟩)) /\ Kept K W w' := by
     rw [<- HCS.out, <- made_nd kd S D l ao n c HLN.out]; exact r1
    have HR1 : Hid (Calls Try.prog 15 #[.pointer (some ⟨p, 0, none⟩), .agg cs] w3 fun e w' => e = .returned (.int .i64 (M.n : Int)) /\ DX K w' p (M.add (Mk.nd ⟨kd, S.toList, D.toList, l⟩)) /\ Kept K W w') := r1'
    clear r1 r1' rr re ho3 hk3 k3 hb
    go_wp2_with (refine wpList_load_row rfl 55 _ rfl b rfl 55 cs (0, 0) _ hb3 Try.underlying55 rfl hi66 ?_)
    refine HR1.out.mono ?_
    rintro e w4 ⟨rfl, ⟨ga4, cap4, hY4⟩, hK4⟩
    have r2 := add_any K p _ ga4 cap4 w4 w4 hY4 (Kept.refl _ _) (by show M.n + 1 <= _; omega) frag0 lk0 lk0 none 0 (OwnZ.nil _ _ _ _)
    have HR2 : Hid (Calls Try.prog 15 #[.pointer (some ⟨p, 0, none⟩), .agg (madeC 4 ⟨#[]⟩ ⟨#[]⟩ none 0 0)] w4 fun e w' => e = .returned (.int .i64 (((M.n + 1 : Nat) : Int))) /\ DX K w' p ((M.add (Mk.nd ⟨kd, S.toList, D.toList, l⟩)).add frag0) /\ Kept K w4 w') := r2
    have HK4 : Hid (Kept K W w4) := hK4
    clear r2 hY4 hK4 HR1 hb3
    go_wp2_with fail
    refine HR2.out.mono ?_
    rintro e w5 ⟨rfl, ⟨ga5, cap5, hY5⟩, hK5⟩
    obtain ⟨g, rfl, -, -, -⟩ := hY5.at (by show 0 < M.n + 1 + 1; omega)
    obtain ⟨x, hx⟩ : ∃ x, Mk.nd ⟨kd, S.toList, D.toList, l⟩ = x := ⟨_, rfl⟩
    obtain ⟨q, hq⟩ : ∃ q, M.n = q := ⟨_, rfl⟩
    have HX : Hid (Mk.nd ⟨kd, S.toList, D.toList, l⟩ = x) := hx
    have HQ : Hid (M.n = q) := hq
    rw [hx] at hY5
    have hin : q < ((M.add x).add frag0).n := by show q < M.n + 1 + 1; omega
    have hin2 : q + 1 < ((M.add x).add frag0).n := by show q + 1 < M.n + 1 + 1; omega
    have c1 : w5.cell? ⟨p, 1, none⟩ = some (.slice (some ⟨g, 0, none⟩) (q + 2) cap5) := by
     have := hY5.c1
     rw [show ((M.add x).add frag0).n = q + 2 from by show M.n + 1 + 1 = _; omega] at this
     exact this
    obtain ⟨aa1, ac1, hc1, -⟩ := hY5.cell hin
    obtain ⟨aa2, ac2, hc2, -⟩ := hY5.cell hin2
    have d11 := hc1 11 _ rfl
    have d10 := hc2 10 _ rfl
    have f11 := hY5.fg (q * 22 + 11)
    have f10 := hY5.fg ((q + 1) * 22 + 10)
    have D1 := hY5.setNcontent hin (((q + 1 : Nat) : Int))
    have D2 := D1.1.setNhost (i := q + 1) hin2 (q : Int)
    have hgp := hY5.gk.2.1
    have HD : Hid (DX K ((w5.setCell ⟨g, q * 22 + 11, none⟩ (.int .i64 ((q + 1 : Nat) : Int))).setCell ⟨g, (q + 1) * 22 + 10, none⟩ (.int .i64 (q : Int))) p (M.addT x)) := by
     unfold Dm.addT
     rw [HQ.out]
     exact ⟨_, _, D2.1⟩
    have HKF : Hid (Kept K w ((w5.setCell ⟨g, q * 22 + 11, none⟩ (.int .i64 ((q + 1 : Nat) : Int))).setCell ⟨g, (q + 1) * 22 + 10, none⟩ (.int .i64 (q : Int)))) := HKW.out.trans (HK4.out.trans (hK5.trans (D1.2.trans D2.2)))
    rw [hq]
    have e2 : q * 22 + 22 + 10 = (q + 1) * 22 + 10 := by omega
    clear D1 D2 hY5 hK5 hc1 hc2 hx hq HR2 e2
    go_wp2
    go_ret2
    exact ⟨HKF.out, .inl ⟨HR.out, by rw [HQ.out]; rfl, by rw [HX.out]; exact HD.out⟩⟩
   ·rw [decide_eq_false hr] at rr
    have HR : Hid (¬ M.n + 2 <= M.limit) := hr
    clear hr
    go_wp2_with (first | (go_at_call 19; refine re.mono ?_; rintro e w3 ⟨rfl, hw3⟩; replace hw3 := hw3.symm; subst hw3))
    refine rr.mono ?_
    rintro e w3 ⟨rfl, k3⟩
    have HK3 : Hid (Kept (fun k => k < W.heap.size) W w3) := HKC.out.trans (k3.mono fun k h => Nat.lt_of_lt_of_le h HKC.out.size)
    clear rr re k3
    go_wp2
    go_ret2
    exact ⟨HKW.out.trans (HK3.out.mono HYW.out.1), .inr ⟨by have := HR.out; omega, rfl, ⟨_, _, HYW.out.kept HK3.out⟩⟩⟩
inductive Makes (K : Nat -> Prop) (p : Nat) (M : Dm) (x : Mk) (e : Ending) (w' : World) : Prop
 | arg : soundN x = false -> e = .returned (.tuple #[.int .i64 0, .int .u16 1]) -> DX K w' p M -> Makes K p M x e w'
 | full : soundN x = true -> M.limit < M.n + (if x.kind = 1 /\ x.name = [116, 101, 109, 112, 108, 97, 116, 101] then 2 else 1) -> e = .returned (.tuple #[.int .i64 0, .int .u16 3]) -> DX K w' p M -> Makes K p M x e w'
 | two : soundN x = true -> (x.kind = 1 /\ x.name = [116, 101, 109, 112, 108, 97, 116, 101]) -> M.n + 2 <= M.limit -> e = .returned (.tuple #[.int .i64 (M.n : Int), .int .u16 0]) -> DX K w' p (M.addT x.nd) -> Makes K p M x e w'
 | one : soundN x = true -> ¬ (x.kind = 1 /\ x.name = [116, 101, 109, 112, 108, 97, 116, 101]) -> M.n + 1 <= M.limit -> e = .returned (.tuple #[.int .i64 (M.n : Int), .int .u16 0]) -> DX K w' p (M.add x.nd) -> Makes K p M x e w'
theorem make_any (K : Nat -> Prop) (p : Nat) (kd : Nat) (S D : ByteArray) (l : List Atr) (aa : Option Addr) (n ac : Nat) (r : Rest) (w : World) (M : Dm) (hX : DX K w p M) (hMn : M.n <= 100000) (hML : M.limit <= 100000) (hln : l.length = n) (hn : n <= 100000000) (ha : AtsAt (fun k => k < w.heap.size) w aa l) (hsz : ∀ x ∈ l, x.name.length <= 1000000000 /\ x.value.length <= 1000000000) :
  Calls Try.prog 7 #[.pointer (some ⟨p, 0, none⟩), nodeV kd S D aa n ac r] w fun e w' => Kept K w w' /\ Makes K p M ⟨kd, S.toList, D.toList, l⟩ e w' := by
 obtain ⟨ga, cap, hY⟩ := hX
 have kb : ∀ o : Obj, Kept (fun k => k < w.heap.size) w (w.alloc o) := fun o => (Kept.refl _ w).alloc (fun _ h => h) _
 have rs := fun o : Obj => sound_dom kd S D l aa n ac r hln (w.alloc o) (ha.kept (kb o) fun k h => Nat.lt_of_lt_of_le h (kb o).size) hn hsz
 obtain ⟨q, hq⟩ : ∃ q, soundN ⟨kd, S.toList, D.toList, l⟩ = q := ⟨_, rfl⟩
 rw [hq] at rs
 cases q with
 | true =>
  refine (make_go K p kd S D l aa n ac r w M ga cap hY hMn hML hln hn ha (rs _)).mono ?_
  rintro e w' ⟨hK, h⟩
  refine ⟨hK, ?_⟩
  by_cases ht : kd = 1 /\ S.toList = [116, 101, 109, 112, 108, 97, 116, 101]
  ·rw [if_pos (by rw [ht.2, decide_eq_true ht.1]; rfl)] at h
   rcases h with ⟨h1, h2, h3⟩ | ⟨h1, h2, h3⟩
   ·exact .two hq ht h1 h2 h3
   ·exact .full hq (by rw [if_pos ht]; omega) h2 h3
  ·have hf : (decide (kd = 1) && S.toList == [116, 101, 109, 112, 108, 97, 116, 101]) = false := by
    rw [Bool.and_eq_false_iff]
    by_cases c : kd = 1
    ·right
     have : S.toList ≠ [116, 101, 109, 112, 108, 97, 116, 101] := fun e => ht ⟨c, e⟩
     simpa using this
    ·left; exact decide_eq_false c
   rw [hf, if_neg (by decide)] at h
   rcases h with ⟨h1, h2, h3⟩ | ⟨h1, h2, h3⟩
   ·exact .one hq ht h1 h2 h3
   ·exact .full hq (by rw [if_neg ht]; omega) h2 h3
 | false =>
  have HY : Hid (DY K w p M ga cap) := hY
  have HQ : Hid (soundN ⟨kd, S.toList, D.toList, l⟩ = false) := hq
  have rs1 := rs (.cells #[.int .u8 (kd : Int), .string S, .string D, .slice aa n ac, .int .i64 r.up, .slice r.ka r.kn r.kc, .int .i64 r.shadow, .int .i64 r.host, .int .i64 r.content, .bool r.fl.a, .bool r.fl.b, .bool r.fl.c, .bool r.fl.d, .bool r.fl.e] 34)
  have HK : Hid (∀ o : Obj, Kept (fun k => k < w.heap.size) w (w.alloc o)) := kb
  clear hY hq rs kb ha hsz
  go_enter Try.func7, Try.ntmps7
  go_wp2_with fail
  refine rs1.mono ?_
  rintro e w1 ⟨rfl, k1⟩
  have HK1 : Hid (Kept (fun k => k < w.heap.size) w w1) := (HK.out _).trans (k1.mono fun k h => Nat.lt_of_lt_of_le h (HK.out _).size)
  clear rs1 k1
  go_wp2
  go_ret2
  exact ⟨HK1.out.mono HY.out.1, .arg HQ.out rfl ⟨_, _, HY.out.kept HK1.out⟩⟩
def Dm.new (limit : Nat) : Dm := ({ limit := limit, n := 0, nd := fun _ => frag0, pl := fun _ => Lk.nil, gf := fun _ => Lk.nil } : Dm).add frag0
theorem new_yes (limit : Nat) (w : World) (h1 : 1 <= limit) (h2 : limit <= 5000) : Calls Try.prog 5 #[.int .i64 (limit : Int)] w fun e w' => ∃ p, e = .returned (.pointer (some ⟨p, 0, none⟩)) /\ w.heap.size <= p /\ DX (fun k => k < w.heap.size) w' p (Dm.new limit) /\ Kept (fun k => k < w.heap.size) w w' := by
 obtain ⟨W, hW⟩ : ∃ W, w.alloc (.cells #[.int .i64 (limit : Int), .slice none 0 0] 49) = W := ⟨_, rfl⟩
 obtain ⟨N, hN⟩ : ∃ N, w.heap.size = N := ⟨_, rfl⟩
 have kW : Kept (fun k => k < w.heap.size) w W := by rw [<- hW]; exact (Kept.refl _ w).alloc (fun _ h => h) _
 have hY : DY (fun k => k < w.heap.size) W N { limit := limit, n := 0, nd := fun _ => frag0, pl := fun _ => Lk.nil, gf := fun _ => Lk.nil } none 0 := by
  refine ⟨fun k hk => Nat.lt_of_lt_of_le hk kW.size, by rw [<- hN]; exact Nat.lt_irrefl _, by rw [<- hW, <- hN]; exact heap_alloc_new w _, [], fun _ => none, fun _ => 0, OwnZ.nil _ _ _ _, fun i hi => absurd hi (Nat.not_lt_zero _), fun i hi => absurd hi (Nat.not_lt_zero _), fun i j hi => absurd hi (Nat.not_lt_zero _)⟩
 have r := add_any (fun k => k < w.heap.size) N _ none 0 W W hY (Kept.refl _ _) (Nat.zero_le _) frag0 lk0 lk0 none 0 (OwnZ.nil _ _ _ _)
 have HR : Hid (Calls Try.prog 15 #[.pointer (some ⟨N, 0, none⟩), .agg (madeC 4 ⟨#[]⟩ ⟨#[]⟩ none 0 0)] W fun e w' => e = .returned (.int .i64 0) /\ DX (fun k => k < w.heap.size) w' N (Dm.new limit) /\ Kept (fun k => k < w.heap.size) W w') := r
 have HW : Hid (w.alloc (.cells #[.int .i64 (limit : Int), .slice none 0 0] 49) = W) := hW
 have HN : Hid (w.heap.size = N) := hN
 have HK : Hid (Kept (fun k => k < w.heap.size) w W) := kW
 have e1 : decide ((limit : Int) < 1) = false := decide_eq_false (by omega)
 have e2 : decide ((limit : Int) > 5000) = false := decide_eq_false (by omega)
 clear r hW hN kW hY
 go_enter Try.func5, Try.ntmps5
 go_wp2_with fail
 rw [HW.out, HN.out]
 refine HR.out.mono ?_
 rintro e w1 ⟨rfl, hX, hK1⟩
 have HX : Hid (DX (fun k => k < w.heap.size) w1 N (Dm.new limit)) := hX
 have HK1 : Hid (Kept (fun k => k < w.heap.size) w w1) := HK.out.trans hK1
 clear hX hK1 HR
 go_wp2
 go_ret
 exact ⟨N, rfl, by rw [HN.out]; exact Nat.le_refl _, HX.out, HK1.out⟩
end
end Go.Proofs.Ytojbjiopilkbgaa
