/-
  Rows of bytes that grow, and texts as they are written (plain functions). What strings.Builder does: copyCheck, WriteString, String, of a builder that a call has made itself. What escape.Text and escape.Value answer. A page that is written on: its bytes lie in memory of their own, outside K.
-/
import Derived.Test.YtikaheenjhdpmaaGreatProg
import Derived.Test.YtikaheenjhdpmaaGreatVB01
import Derived.Test.YtikaheenjhdpmaaGreatVB02
import Derived.Test.YtikaheenjhdpmaaGreatVB03
import Derived.Test.YtikaheenjhdpmaaGreatVB04
import Derived.Lib.Builder
import Derived.Lib.UnsafeStr
import Derived.Laws.Externs
import Derived.Laws.StandIn
import Derived.Deep.QuietTactic
import Derived.BigQuiet
import Derived.Deep.LoopGhost
namespace Go.Proofs.YtikaheenjhdpmaaGreat
section
open Go.RowKit
set_option linter.unusedVariables false
set_option maxRecDepth 100000
set_option maxHeartbeats 4000000
abbrev bv (c : UInt8) : Value := .int .u8 (c.toNat : Int)
def bvs (l : List UInt8) : List Value := l.map bv
theorem zgv (l m : List UInt8) : bvs (l ++ m) = bvs l ++ bvs m := by simp [bvs]
theorem Own.cast {K : Nat -> Prop} {w : World} {e : TypeId} {ao : Option Addr} {n n' cap : Nat} {xs xs' : List Value} (h : Own K w e ao n cap xs) (hn : n = n') (hx : xs = xs') : Own K w e ao n' cap xs' := by subst hn; subst hx; exact h
section
variable {P : Program}
theorem zsa {K : Nat -> Prop} (w : World) (t tx ty e : TypeId) (i : TypeInfo) (z : Value) (ht : P.underlying t = some (.slice e)) (hi : P.info? e = some i) (hz : i.zero = some z) (hsize : i.size = 1) (hzs : z.cells.size = 1)
  {ao : Option Addr} {n cap : Nat} {xs : List Value} (hown : Own K w e ao n cap xs) (x : Value) (m : Nat) (news : List Value) (hs : Src P 1 tx x m news w)
  (hK : ∀ k, K k -> k < w.heap.size) (h63 : n + m <= maxLen) (hbytes : (n + m) * i.bytes <= 140737488355328) :
  ∃ ao' cap' w', (Builtin.append_ #[t, tx] ty #[.slice ao n cap, x]).run P w = .ok (.slice ao' (n + m) cap') w' /\ Own K w' e ao' (n + m) cap' (xs ++ news) /\ Kept K w w' /\ (0 < n + m -> ao'.isSome) := by
 have hsmall : n + m <= 9223372036854775807 := by simp only [maxLen] at h63; omega
 have hnl : news.length = m := by simpa using hs.newsLen
 have hs' : Src P i.size tx x m news w := by rw [hsize]; exact hs
 obtain ⟨h1, h2, h3, h4⟩ := hown
 have grow : cap < n + m -> (Builtin.firstCells i.size n (.slice ao n cap)).run P w.drew = .ok xs.toArray w.drew ->
   ∃ ao' cap' w', (Builtin.append_ #[t, tx] ty #[.slice ao n cap, x]).run P w = .ok (.slice ao' (n + m) cap') w' /\ Own K w' e ao' (n + m) cap' (xs ++ news) /\ Kept K w w' /\ (0 < n + m -> ao'.isSome) := by
  intro hg hold
  have hr := run_append_grow_src (P := P) w t tx ty e i z ht hi hz ao n cap xs hold x m news hs' hg (by omega) (growslice_fits hg hbytes)
  have hge := grownCap_ge w (n + m) cap e
  refine ⟨_, _, _, hr, ⟨by simp [h1, hnl], hge, grownCap_le_maxLen w (n + m) cap e h63, .inr ⟨w.heap.size, _, rfl, fun hk => Nat.lt_irrefl _ (hK _ hk), heap_alloc_new w.drew _, ?_, ?_⟩⟩, (Kept.refl K w).drew.alloc (by simpa using hK) _, fun _ => rfl⟩
  ·simp only [Array.size_append, List.size_toArray, List.length_append, size_zeroCells, hzs, h1, hnl]
   omega
  ·simp only [Array.toList_append]
   have hl : (xs ++ news).length = n + m := by simp [h1, hnl]
   rw [<- hl]
   exact List.take_left
 rcases h4 with ⟨rfl, rfl⟩ | ⟨g, cur, rfl, r2, r3, r4, r5⟩
 ·have hn0 : n = 0 := by omega
  subst hn0
  have hx : xs = [] := List.eq_nil_of_length_eq_zero h1
  subst hx
  by_cases hm : m = 0
  ·subst hm
   have hnn : news = [] := List.eq_nil_of_length_eq_zero hnl
   subst hnn
   exact ⟨none, 0, w, run_append_nothing w t tx ty e i ht hi none 0 0 (Nat.le_refl _) x hs', ⟨rfl, Nat.le_refl _, Nat.zero_le _, .inl ⟨rfl, rfl⟩⟩, Kept.refl K w, fun h => absurd h (by omega)⟩
  ·exact grow (by omega) (run_firstCells_none w.drew i.size 0 0 0)
 ·have hcells : ∀ j u, xs[j]? = some u -> w.cell? ((⟨g, 0, none⟩ : Addr).add j) = some u := by
   intro j u hj
   have hjl : j < xs.length := by
    rcases Nat.lt_or_ge j xs.length with hl | hg
    ·exact hl
    ·rw [List.getElem?_eq_none hg] at hj; cases hj
   have : (⟨g, 0, none⟩ : Addr).add j = ⟨g, j, none⟩ := by rw [Addr.add_lit, Nat.zero_add]
   rw [this, zaa r3, <- hj, <- r5, List.getElem?_take, if_pos (by omega), Array.getElem?_toList]
  by_cases hroom : n + m <= cap
  ·have hr := run_append_room_src (P := P) w t tx ty e i ht hi g 0 n cap x m news hs' hroom
    (fun j hj => by rw [zaa r3]; simp only [hsize]; rw [Array.getElem?_eq_getElem (by omega)]; rfl)
    (fun j hj => zam r3 _)
   simp only [hsize, Nat.zero_add, Nat.mul_one] at hr
   obtain ⟨c', q1, q2⟩ := za2 (b := g) (e := e) (f := (0, 0)) news n w cur r3 (by omega)
   refine ⟨_, _, _, hr, ⟨by simp [h1, hnl], hroom, h3, .inr ⟨g, c', rfl, r2, q1, ?_, ?_⟩⟩, ⟨?_, ?_, ?_, ?_, ?_⟩, fun _ => rfl⟩
   ·have := congrArg List.length q2
    simp at this
    omega
   ·rw [q2, r5]
    have hl : (xs ++ news).length = n + m := by simp [h1, hnl]
    rw [<- hl]
    exact List.take_left
   ·exact World.os_setCells w g n news
   ·have key : ∀ (vs : List Value) (o : Nat) (v : World), (v.setCells g o vs).tape = v.tape := by
     intro vs
     induction vs with
     | nil => intro o v; rfl
     | cons a r ih => intro o v; rw [World.setCells, ih]; rfl
    exact key news n w
   ·exact World.output_setCells w g n news
   ·have key : ∀ (vs : List Value) (o : Nat) (v : World), (v.setCells g o vs).heap.size = v.heap.size := by
     intro vs
     induction vs with
     | nil => intro o v; rfl
     | cons a r ih => intro o v; rw [World.setCells, ih]; simp
    rw [key]; exact Nat.le_refl _
   ·intro k hk
    exact World.heap_setCells_other w g n news (hK k hk) (fun e => r2 (e ▸ hk))
  ·exact grow (by omega) (run_firstCells_some w.drew i.size n ⟨g, 0, none⟩ n cap xs (by rw [hsize, h1]; simp) (by simpa using hcells))
theorem zly {K : Nat -> Prop} {w : World} {ops : Array Oper} {rest : List Oper} {o : Oper} {a : Act} {Q : Exit -> Act -> World -> Prop} (hgd : o.guard = none) (s x : Operand) (t tx e : TypeId)
  (ho : o.op = .call { callee := .builtin .append, args := #[s, x], argTypes := #[t, tx] })
  (i : TypeInfo) (z : Value) (ht : P.underlying t = some (.slice e)) (hi : P.info? e = some i) (hz : i.zero = some z) (hsize : i.size = 1) (hzs : z.cells.size = 1)
  (ao : Option Addr) (n cap : Nat) (xs : List Value) (hs : a.eval s = .slice ao n cap) (hown : Own K w e ao n cap xs) (v : Value) (m : Nat) (news : List Value) (hx : a.eval x = v) (hsrc : Src P 1 tx v m news w)
  (hK : ∀ k, K k -> k < w.heap.size) (h63 : n + m <= maxLen) (hbytes : (n + m) * i.bytes <= 140737488355328)
  (h : ∀ ao' cap' w', Own K w' e ao' (n + m) cap' (xs ++ news) -> Kept K w w' -> (0 < n + m -> ao'.isSome) -> wpList P ops Q rest (a.put o.dst (.slice ao' (n + m) cap')) w') : wpList P ops Q (o :: rest) a w := by
 refine wpList_plain hgd fun _ hK' => ?_
 obtain ⟨ao', cap', w', hr, h2, h3, h4⟩ := zsa (P := P) w t tx o.type e i z ht hi hz hsize hzs hown v m news hsrc hK h63 hbytes
 unfold Oper.wp execOp
 simp only [ho, resolve, invoke, builtin, Sem.run_bind, Sem.run_pure, Result.andThen_ok, List.map_toArray, List.map_cons, List.map_nil, hs, hx, hr]
 exact hK' _ _ (h ao' cap' w' h2 h3 h4)
theorem zgd {K : Nat -> Prop} {X : World} {ops : Array Oper} {rest : List Oper} {o : Oper} {a : Act} {Q : Exit -> Act -> World -> Prop} (hgd : o.guard = none) (s x : Operand) (t u e : TypeId)
  (ho : o.op = .call { callee := .builtin .append, args := #[s, x], argTypes := #[t, u] })
  (i : TypeInfo) (z : Value) (ht : P.underlying t = some (.slice e)) (hu : P.underlying u = some .string) (hi : P.info? e = some i) (hz : i.zero = some z) (hsize : i.size = 1) (hzs : z.cells.size = 1) (hby : i.bytes <= 64)
  (ao : Option Addr) (n cap : Nat) (xs : List Value) (hs : a.eval s = .slice ao n cap) (str : ByteArray) (hx : a.eval x = .string str) (m : Nat) (hm : str.size = m) (hb : n + m <= 1099511627776)
  (hown : Own K X e ao n cap xs) (hK : ∀ k, K k -> k < X.heap.size)
  (h : ∀ ao' cap' w', Own K w' e ao' (n + m) cap' (xs ++ bvs str.data.toList) -> Kept K X w' -> wpList P ops Q rest (a.put o.dst (.slice ao' (n + m) cap')) w') : wpList P ops Q (o :: rest) a X := by
 subst hm
 have hbb : (n + str.size) * i.bytes <= 1099511627776 * 64 := Nat.mul_le_mul (by omega) hby
 refine zly (K := K) hgd s x t u e ho i z ht hi hz hsize hzs ao n cap xs hs hown _ str.size (byteCells str) hx (Src.ofString X hu str) hK (by unfold maxLen; omega) (by omega) ?_
 intro ao' cap' w' q1 q2 _
 exact h ao' cap' w' q1 q2
end
theorem zdd (q : Bool) (c : UInt8) (r : List UInt8) : front q (c :: r) = if nbq (c :: r) = true then nbsp else one q c := rfl
def esc (q : Bool) : List UInt8 -> List UInt8
 | [] => []
 | [c] => one q c
 | c :: d :: r => if nbq (c :: d :: r) = true then nbsp ++ esc q r else one q c ++ esc q (d :: r)
theorem zep {l : List UInt8} : nbq l = true ↔ ∃ r, l = 194 :: 160 :: r := by
 constructor
 ·intro h
  unfold nbq at h
  split at h
  ·exact ⟨_, rfl⟩
  ·cases h
 ·rintro ⟨r, rfl⟩
  rfl
theorem zni (q : Bool) : esc q [] = [] := rfl
theorem zmh {q : Bool} {c : UInt8} {r : List UInt8} (h : nbq (c :: r) = false) : esc q (c :: r) = one q c ++ esc q r := by
 cases r with
 | nil => rw [esc, esc, List.append_nil]
 | cons d r => rw [esc, h]; rfl
theorem zkd (q : Bool) {l : List UInt8} (h : l ≠ []) : esc q l = front q l ++ esc q (l.drop (far l)) := by
 cases l with
 | nil => exact absurd rfl h
 | cons c r =>
  by_cases hn : nbq (c :: r) = true
  ·obtain ⟨t, ht⟩ := zep.1 hn
   unfold far
   rw [zdd, if_pos hn, if_pos hn, ht]
   rfl
  ·have hn' : nbq (c :: r) = false := by simpa using hn
   unfold far
   rw [zdd, if_neg hn, if_neg hn, zmh hn']
   rfl
theorem zoy {l : List UInt8} (h : l ≠ []) : 1 <= far l /\ far l <= l.length := by
 unfold far
 split
 ·rename_i h1
  obtain ⟨r, rfl⟩ := zep.1 h1
  simp
 ·cases l with
  | nil => exact absurd rfl h
  | cons c r => simp
theorem znv (q : Bool) (c : UInt8) : 1 <= (one q c).length /\ (one q c).length <= 6 := by
 unfold one
 repeat' split
 all_goals simp
theorem zh2 (q : Bool) {l : List UInt8} (h : l ≠ []) : far l <= (front q l).length /\ (front q l).length <= 6 := by
 cases l with
 | nil => exact absurd rfl h
 | cons c r =>
  unfold far
  rw [zdd]
  split
  ·decide
  ·exact znv q c
theorem ztc {p : List UInt8 -> Prop} (h0 : p []) (hs : ∀ l, l ≠ [] -> p (l.drop (far l)) -> p l) : ∀ (n : Nat) (l : List UInt8), l.length <= n -> p l
 | 0, l, h => by rw [List.eq_nil_of_length_eq_zero (l := l) (by omega)]; exact h0
 | n + 1, l, h => by
  by_cases hl : l = []
  ·rw [hl]; exact h0
  ·have := zoy hl
   exact hs l hl (ztc h0 hs n _ (by rw [List.length_drop]; omega))
theorem zu1 {p : List UInt8 -> Prop} (h0 : p []) (hs : ∀ l, l ≠ [] -> p (l.drop (far l)) -> p l) (l : List UInt8) : p l := ztc h0 hs l.length l (Nat.le_refl _)
theorem zeg (q : Bool) : ∀ l, (esc q l).length <= 6 * l.length :=
 zu1 (Nat.le_refl _) fun l hl ih => by
  rw [zkd q hl, List.length_append]
  have h1 := zh2 q hl
  have h2 := zoy hl
  rw [List.length_drop] at ih
  omega
theorem zca (s : ByteArray) (a b : Nat) : (s.extract a b).data.toList = (s.data.toList.take b).drop a := by
 rw [ByteArray.data_extract, Array.toList_extract, List.extract_eq_take_drop, List.drop_take]
theorem zp4 (a b : ByteArray) : (a.toList == b.toList) = (a.data.toList == b.data.toList) := by rw [ByteArray.toList_eq, ByteArray.toList_eq]
theorem zkv : ∀ (p l : List UInt8), (l.take p.length == p) = p.isPrefixOf l
 | [], l => by simp
 | a :: p, [] => by simp
 | a :: p, c :: l => by
  have := zkv p l
  simp only [List.length_cons, List.take_succ_cons, List.isPrefixOf]
  rw [<- this, List.cons_beq_cons, Bool.beq_comm]
theorem zoq (p l : List UInt8) (h : l.length < p.length) : p.isPrefixOf l = false := by
 rw [Bool.eq_false_iff]
 intro h'
 have := zd7 p l h'
 omega
def zlz (p s : ByteArray) : Bool := p.data.toList.isPrefixOf s.data.toList
theorem zmp (s p : ByteArray) (w : World) :
  Calls Tryz.prog 232 #[.string s, .string p] w fun e w' => e = .returned (.bool (zlz p s)) /\ w' = w := by
 by_cases h : p.size <= s.size
 ·have e1 : decide ((s.size : Int) >= (p.size : Int)) = true := by simp; omega
  have HP : Hid (((s.extract 0 p.size).toList == p.toList) = zlz p s) := by
   show (_ == _) = _
   rw [zp4, zca, List.drop_zero]
   exact zkv p.data.toList s.data.toList
  go_enter Tryz.func232, Tryz.ntmps232
  go_wp2
  go_ret
  exact ⟨by rw [HP.out]; rfl, rfl⟩
 ·have e1 : decide ((s.size : Int) >= (p.size : Int)) = false := by simp; omega
  have hp : zlz p s = false := zoq _ _ (by show s.size < p.size; omega)
  rw [hp]
  clear hp
  go_enter Tryz.func232, Tryz.ntmps232
  go_wp2
  go_ret
  exact ⟨rfl, rfl⟩
theorem zrv (s p : ByteArray) (w : World) :
  Calls Tryz.prog 220 #[.string s, .string p] w fun e w' => e = .returned (.bool (zlz p s)) /\ w' = w := by
 have h1 := zmp s p w
 go_enter Tryz.func220, Tryz.ntmps220
 go_wp2_with fail
 refine h1.mono ?_
 rintro e w1 ⟨rfl, rfl⟩
 go_wp2
 go_ret
 exact ⟨rfl, rfl⟩
theorem zbl {s : ByteArray} {k : Nat} (h : k < s.size) : s.data.toList.drop k = s[k] :: s.data.toList.drop (k + 1) := List.drop_eq_getElem_cons (show k < s.data.toList.length from h)
end
section
open Go.RowKit
set_option linter.unusedVariables false
set_option maxRecDepth 100000
set_option maxHeartbeats 4000000
def Bld (K : Nat -> Prop) (w : World) (b : Nat) (l : List UInt8) : Prop :=
 ¬ K b /\ ∃ p ao cap, w.heap[b]? = some (.cells #[.pointer p, .slice ao l.length cap] 114 (0, 0)) /\ (p = none \/ p = some ⟨b, 0, none⟩) /\ Own (fun k => K k \/ k = b) w 5 ao l.length cap (bvs l)
theorem zrk : (Tryz.prog.info? 114).map (·.size) = some 2 := by kernel_rfl
theorem zup : liesAt Tryz.prog Tryz.prog.depth 114 (2 / Tryz.prog.cellsOf 114) 0 114 1 = true := by kernel_rfl
theorem zs6 : (Tryz.prog.info? 5).map (fun i => (i.zero, i.size, i.bytes)) = some (some (.int .u8 0), 1, 1) := by kernel_rfl
theorem zq6 : Tryz.prog.cellsOf 5 = 1 := by kernel_rfl
theorem zq8 (b : Nat) (w : World) (h0 : w.cell? ⟨b, 0, none⟩ = some (.pointer (some ⟨b, 0, none⟩))) :
  Calls Tryz.prog 199 #[.pointer (some ⟨b, 0, none⟩)] w fun e w' => e = .returned (.tuple #[]) /\ w' = w := by
 obtain ⟨j, hj, _⟩ := Option.map_eq_some_iff.1 zrk
 go_enter Tryz.func199, Tryz.ntmps199
 go_wp2
 rw [Lib.run_neq_ptr_same w _ Tryz.underlying112 hj]
 go_wp2
 go_end0
 exact ⟨rfl, rfl⟩
theorem zsg (b : Nat) (w : World) (h0 : w.cell? ⟨b, 0, none⟩ = some (.pointer none)) (hsh : w.shape? b = some (114, 2)) (hfz : w.frozen? ⟨b, 0, none⟩ = false) :
  Calls Tryz.prog 199 #[.pointer (some ⟨b, 0, none⟩)] w fun e w' => e = .returned (.tuple #[]) /\ w' = w.setCell ⟨b, 0, none⟩ (.pointer (some ⟨b, 0, none⟩)) := by
 obtain ⟨j, hj, hjs⟩ := Option.map_eq_some_iff.1 zrk
 go_enter Tryz.func199, Tryz.ntmps199
 go_wp2
 rw [Lib.run_to_unsafe w ⟨b, 0, none⟩ Tryz.underlying112 Tryz.underlying243 hj (by rw [hjs]; decide) hsh (Nat.zero_lt_succ 1)]
 simp only [Result.andThen]
 rw [Oper.upon_value]
 go_wp2
 rw [run_callFunc_extern Tryz.func221 (by kernel_rfl) (by kernel_rfl) (by kernel_rfl) (e := Extern.AbiNoEscape.same) (by kernel_rfl)]
 rw [Lib.run_noEscape]
 simp only [Result.andThen]
 rw [Oper.upon_value]
 go_wp2
 rw [Lib.run_from_unsafe w ⟨b, 0, none⟩ Tryz.underlying243 Tryz.underlying112 hj hsh zup]
 simp only [Result.andThen]
 rw [Oper.upon_value]
 go_wp2
 go_end0
 exact ⟨rfl, rfl⟩
theorem ztw (K : Nat -> Prop) (b : Nat) (l : List UInt8) (w : World) (h : Bld K w b l) :
  Calls Tryz.prog 199 #[.pointer (some ⟨b, 0, none⟩)] w fun e w' => e = .returned (.tuple #[]) /\
   (∃ ao cap, w'.heap[b]? = some (.cells #[.pointer (some ⟨b, 0, none⟩), .slice ao l.length cap] 114 (0, 0)) /\ Own (fun k => K k \/ k = b) w' 5 ao l.length cap (bvs l)) /\ Kept K w w' := by
 obtain ⟨hKb, p, ao, cap, hb, hp, hown⟩ := h
 rcases hp with rfl | rfl
 ·refine (zsg b w (by rw [zaa hb]; rfl) (by simp [World.shape?, hb]) (zam hb 0)).mono ?_
  rintro e w1 ⟨rfl, rfl⟩
  exact ⟨rfl, ⟨ao, cap, zai hb 0 _, hown.setCell (p := ⟨b, 0, none⟩) (.inr rfl) _⟩, (Kept.refl K w).setCell (p := ⟨b, 0, none⟩) hKb _⟩
 ·refine (zq8 b w (by rw [zaa hb]; rfl)).mono ?_
  rintro e w1 ⟨rfl, rfl⟩
  exact ⟨rfl, ⟨ao, cap, hb, hown⟩, Kept.refl K w1⟩
theorem znh (K : Nat -> Prop) (b : Nat) (l : List UInt8) (s : ByteArray) (w : World) (h : Bld K w b l) (hK : ∀ k, K k -> k < w.heap.size) (hl : l.length + s.size <= 1099511627776) :
  Calls Tryz.prog 175 #[.pointer (some ⟨b, 0, none⟩), .string s] w fun e w' => e = .returned (.tuple #[.int .i64 s.size, .nilIface]) /\ Bld K w' b (l ++ s.data.toList) /\ Kept K w w' := by
 obtain ⟨i0, hi, hz0, hz1, hz2⟩ := info_parts zs6
 have hz3 : i0.bytes <= 64 := by omega
 have hcc := ztw K b l w h
 have hKb : ¬ K b := h.1
 clear h
 go_enter Tryz.func175, Tryz.ntmps175
 go_wp2_with fail
 refine hcc.mono ?_
 rintro e w1 ⟨rfl, ⟨ao, cap, hb, hown⟩, hk1⟩
 have c1 : w1.cell? ⟨b, 1, none⟩ = some (.slice ao l.length cap) := by rw [zaa hb]; rfl
 have hK1 : ∀ k, (K k \/ k = b) -> k < w1.heap.size := by
  rintro k (hk | rfl)
  ·exact ltl (hK k hk) hk1.size
  ·exact zac hb
 obtain ⟨K', hK'⟩ : ∃ K' : Nat -> Prop, (fun k => K k \/ k = b) = K' := ⟨_, rfl⟩
 have hKK : ∀ k, K k -> K' k := fun k hk => by rw [<- hK']; exact .inl hk
 have hKb' : K' b := by rw [<- hK']; exact .inr rfl
 have HKe : Hid ((fun k => K k \/ k = b) = K') := hK'
 rw [hK'] at hown
 have hK2 : ∀ k, K' k -> k < w1.heap.size := fun k hk => hK1 k (by rw [<- hK'] at hk; exact hk)
 clear hcc hK' hK1
 obtain ⟨n, hn⟩ : ∃ n, l.length = n := ⟨_, rfl⟩
 rw [hn] at hl c1 hown hb
 go_wp2_with (at_builtin; refine zgd (K := K') rfl (.tmp 12) (.tmp 13) 52 9 5 rfl i0 (.int .u8 0) Tryz.underlying52 Tryz.underlying9 hi hz0 hz1 rfl hz3 ao n cap (bvs l) rfl s rfl s.size rfl hl hown hK2 ?_)
 intro ao2 cap2 w2 own2 kept2
 have hb2 : w2.heap[b]? = some (.cells #[.pointer (some ⟨b, 0, none⟩), .slice ao n cap] 114 (0, 0)) := by rw [kept2.block b hKb']; exact hb
 have d1 : w2.cell? ⟨b, 1, none⟩ = some (.slice ao n cap) := by rw [zaa hb2]; rfl
 have f1 : w2.frozen? ⟨b, 1, none⟩ = false := zam hb2 1
 clear c1
 go_wp2
 go_ret2
 refine ⟨rfl, ⟨hKb, some ⟨b, 0, none⟩, ao2, cap2, ?_, .inr rfl, ?_⟩, ?_⟩
 ·rw [zai hb2, List.length_append, hn]
  rfl
 ·rw [HKe.out]
  refine Own.setCell (p := ⟨b, 1, none⟩) ?_ hKb' _
  refine own2.cast ?_ ?_
  ·rw [List.length_append, hn]; rfl
  ·rw [zgv]
 ·exact (hk1.trans (kept2.mono hKK)).setCell (p := ⟨b, 1, none⟩) hKb _
theorem Kept.freeze {K : Nat -> Prop} {a w : World} (h : Kept K a w) {p : Addr} (hp : ¬ K p.block) (n : Nat) : Kept K a (w.freeze p n) := by
 refine h.trans ?_
 unfold World.freeze
 split
 ·exact Kept.refl K w
 ·exact ⟨rfl, rfl, rfl, by simp, fun k hk => by
   simp only [Array.getElem?_modify]
   rw [if_neg (fun (e : p.block = k) => hp (by rw [e]; exact hk))]⟩
theorem zk6 (K : Nat -> Prop) (b : Nat) (l : List UInt8) (w : World) (h : Bld K w b l) (hK : ∀ k, K k -> k < w.heap.size) (hl : l.length <= 1099511627776) :
  Calls Tryz.prog 62 #[.pointer (some ⟨b, 0, none⟩)] w fun e w' => e = .returned (.string ⟨l.toArray⟩) /\ Kept K w w' := by
 obtain ⟨hKb, p, ao, cap, hbk, _, hown⟩ := h
 have hUS0 := fun (W : World) (q : Option Addr) => Lib.run_unsafeString_none (P := Tryz.prog) W 165 3 9 q
 rcases hown.2.2.2 with ⟨rfl, rfl⟩ | ⟨g, cur, rfl, hKg, hg, hcs, htk⟩
 ·have hl0 : l = [] := List.eq_nil_of_length_eq_zero (by have := hown.2.1; omega)
  subst hl0
  have c1 : w.drew.cell? ⟨b, 1, none⟩ = some (.slice none 0 0) := by
   have : w.drew.heap[b]? = some (.cells #[.pointer p, .slice none 0 0] 114 (0, 0)) := hbk
   rw [zaa this]; rfl
  have hSD : (Builtin.unsafeSliceData_ #[52] 165 #[.slice none 0 0]).run Tryz.prog w.drew = .ok (.pointer none) w.drew := rfl
  have hUS := hUS0 w.drew none
  clear hUS0 hown hbk hl
  go_enter Tryz.func62, Tryz.ntmps62
  go_wp2
  go_region
  all_goals (go_wp2; go_ret; exact ⟨rfl, (Kept.refl K w).drew⟩)
 ·have hKg' : ¬ K g := fun hk => hKg (.inl hk)
  by_cases h0 : l = []
  ·subst h0
   by_cases hc0 : cap = 0
   ·subst hc0
    have c1 : w.drew.cell? ⟨b, 1, none⟩ = some (.slice (some ⟨g, 0, none⟩) 0 0) := by
     have : w.drew.heap[b]? = some (.cells #[.pointer p, .slice (some ⟨g, 0, none⟩) 0 0] 114 (0, 0)) := hbk
     rw [zaa this]; rfl
    have hSD : (Builtin.unsafeSliceData_ #[52] 165 #[.slice (some ⟨g, 0, none⟩) 0 0]).run Tryz.prog w.drew = .ok (.pointer (some ⟨w.drew.heap.size, 0, none⟩)) (w.drew.alloc (.view ⟨g, 0, none⟩ 5)) :=
     Lib.run_unsafeSliceData_zero w.drew _ _ 5 Tryz.underlying165 ⟨g, 0, none⟩ 0 (5, cur.size) (by have hg' : w.drew.heap[g]? = some (.cells cur 5 (0, 0)) := hg; simp [World.shape?, hg'])
    have c2 : (w.alloc (.view ⟨g, 0, none⟩ 5)).cell? ⟨b, 1, none⟩ = some (.slice (some ⟨g, 0, none⟩) 0 0) := by
     have : (w.alloc (.view ⟨g, 0, none⟩ 5)).heap[b]? = _ := zbg hbk _
     rw [zaa this]; rfl
    have c3 : (w.alloc (.view ⟨g, 0, none⟩ 5)).drew.cell? ⟨b, 1, none⟩ = some (.slice (some ⟨g, 0, none⟩) 0 0) := c2
    have c0 : w.cell? ⟨b, 1, none⟩ = some (.slice (some ⟨g, 0, none⟩) 0 0) := c1
    have hUS := hUS0
    have hkk : ∀ o, Kept K w (w.alloc o).drew := fun o => ((Kept.refl K w).alloc hK o).drew
    clear hUS0 hown hbk hl hg hcs htk hKg hKg'
    go_enter Tryz.func62, Tryz.ntmps62
    go_wp2
    go_region
    all_goals (go_wp2; go_ret; exact ⟨rfl, hkk _⟩)
   ·have c1 : w.drew.cell? ⟨b, 1, none⟩ = some (.slice (some ⟨g, 0, none⟩) 0 cap) := by
     have : w.drew.heap[b]? = some (.cells #[.pointer p, .slice (some ⟨g, 0, none⟩) 0 cap] 114 (0, 0)) := hbk
     rw [zaa this]; rfl
    have hSD : (Builtin.unsafeSliceData_ #[52] 165 #[.slice (some ⟨g, 0, none⟩) 0 cap]).run Tryz.prog w.drew = .ok (.pointer (some ⟨g, 0, none⟩)) w.drew :=
     Lib.run_unsafeSliceData_row _ _ _ _ _ _ hc0
    have hUS := hUS0 w.drew (some ⟨g, 0, none⟩)
    clear hUS0 hown hbk hl hg hcs htk hKg hKg' hc0
    go_enter Tryz.func62, Tryz.ntmps62
    go_wp2
    go_region
    all_goals (go_wp2; go_ret; exact ⟨rfl, (Kept.refl K w).drew⟩)
  ·have hn0 : l.length ≠ 0 := by simpa using h0
   have hlc : l.length <= cap := hown.2.1
   have c1 : w.drew.cell? ⟨b, 1, none⟩ = some (.slice (some ⟨g, 0, none⟩) l.length cap) := by
    have : w.drew.heap[b]? = some (.cells #[.pointer p, .slice (some ⟨g, 0, none⟩) l.length cap] 114 (0, 0)) := hbk
    rw [zaa this]; rfl
   have hSD : (Builtin.unsafeSliceData_ #[52] 165 #[.slice (some ⟨g, 0, none⟩) l.length cap]).run Tryz.prog w.drew = .ok (.pointer (some ⟨g, 0, none⟩)) w.drew :=
    Lib.run_unsafeSliceData_row _ _ _ _ _ _ (by omega)
   have hUS : (Builtin.unsafeString_ #[165, 3] 9 #[.pointer (some ⟨g, 0, none⟩), .int .i64 l.length]).run Tryz.prog w.drew = .ok (.string ⟨l.toArray⟩) (w.drew.freeze ⟨g, 0, none⟩ l.length) := by
    refine Lib.run_unsafeString_row w.drew 165 3 9 5 Tryz.underlying165 zq6 g cur.size (by have hg' : w.drew.heap[g]? = some (.cells cur 5 (0, 0)) := hg; simp [World.shape?, hg']) l h0 (by omega) (by omega) ?_
    intro j x hx
    rcases hown.cells with ⟨ha, _⟩ | ⟨g', ha, _, _, hc, _⟩
    ·cases ha
    ·injection ha with ha
     injection ha with ha
     subst ha
     have := hc j (bv x) (by simp [bvs, hx])
     rw [Addr.add_lit, Nat.zero_add]
     exact this
   have hkk : Kept K w (w.drew.freeze ⟨g, 0, none⟩ l.length) := ((Kept.refl K w).drew).freeze (p := ⟨g, 0, none⟩) hKg' _
   clear hUS0 hown hbk hl hg hcs htk hKg hKg' h0 hn0 hlc
   go_enter Tryz.func62, Tryz.ntmps62
   go_wp2
   go_region
   all_goals (go_wp2; go_ret; exact ⟨rfl, hkk⟩)
end
section
open Go.RowKit
set_option linter.unusedVariables false
set_option maxRecDepth 100000
set_option maxHeartbeats 4000000
theorem Bld.kept {K : Nat -> Prop} {w w' : World} {b : Nat} {l : List UInt8} (h : Bld K w b l) (hk : ∀ g, ¬ K g -> g < w.heap.size -> w'.heap[g]? = w.heap[g]?) : Bld K w' b l := by
 obtain ⟨h1, p, ao, cap, h2, h3, h4⟩ := h
 exact ⟨h1, p, ao, cap, by rw [hk b h1 (zac h2)]; exact h2, h3, h4.of fun g hg hl => hk g (fun h => hg (.inl h)) hl⟩
structure Rep where
 char : ByteArray
 written : ByteArray
def zrm : List Rep := [⟨⟨#[38]⟩, ⟨#[38, 97, 109, 112, 59]⟩⟩, ⟨⟨#[60]⟩, ⟨#[38, 108, 116, 59]⟩⟩, ⟨⟨#[62]⟩, ⟨#[38, 103, 116, 59]⟩⟩, ⟨⟨#[194, 160]⟩, ⟨#[38, 110, 98, 115, 112, 59]⟩⟩]
def zt5 : Rep := ⟨⟨#[34]⟩, ⟨#[38, 113, 117, 111, 116, 59]⟩⟩
def zfc (q : Bool) : List Rep := if q = true then zrm ++ [zt5] else zrm
def stE (l : ByteArray) (st : ByteArray × Nat) (r : Rep) : ByteArray × Nat := if zlz r.char l = true then (r.written, r.char.size) else st
def zcl (l : ByteArray) (st : ByteArray × Nat) (rs : List Rep) : ByteArray × Nat := rs.foldl (stE l) st
theorem zes (l : ByteArray) (st : ByteArray × Nat) (rs : List Rep) (r : Rep) : zcl l st (rs ++ [r]) = stE l (zcl l st rs) r := by
 unfold zcl
 rw [List.foldl_append]
 rfl
theorem zt7 (a c : UInt8) (l : ByteArray) (t : List UInt8) (h : l.data.toList = c :: t) : zlz ⟨#[a]⟩ l = (a == c) := by
 unfold zlz
 rw [h]
 show (a == c && true) = _
 rw [Bool.and_true]
theorem zs7 (c : UInt8) (l : ByteArray) (t : List UInt8) (h : l.data.toList = c :: t) : zlz ⟨#[194, 160]⟩ l = nbq (c :: t) := by
 unfold zlz
 rw [h]
 cases t with
 | nil =>
  have : nbq [c] = false := by
   rw [Bool.eq_false_iff]
   intro hh
   obtain ⟨r, hr⟩ := zep.1 hh
   injection hr with _ h2
   cases h2
  rw [this]
  show ((194 : UInt8) == c && false) = false
  rw [Bool.and_false]
 | cons d t =>
  by_cases hc : c = 194 /\ d = 160
  ·rw [hc.1, hc.2]; rfl
  ·have : nbq (c :: d :: t) = false := by
    rw [Bool.eq_false_iff]
    intro hh
    obtain ⟨r, hr⟩ := zep.1 hh
    injection hr with h1 h2
    injection h2 with h3 _
    exact hc ⟨h1, h3⟩
   rw [this]
   show ((194 : UInt8) == c && ((160 : UInt8) == d && true)) = false
   rw [Bool.eq_false_iff]
   intro hh
   simp at hh
   exact hc ⟨hh.1.symm, hh.2.symm⟩
theorem zi9 (q : Bool) (c : UInt8) (l b : ByteArray) (t : List UInt8) (h : l.data.toList = c :: t) (hb : b.data.toList = [c]) : (zcl l (b, 1) (zfc q)).1.data.toList = front q (c :: t) /\ (zcl l (b, 1) (zfc q)).2 = far (c :: t) := by
 have p1 := zt7 38 c l t h
 have p2 := zt7 60 c l t h
 have p3 := zt7 62 c l t h
 have p4 := zt7 34 c l t h
 have p5 := zs7 c l t h
 have hk : ∀ r st, stE l st r = if zlz r.char l = true then (r.written, r.char.size) else st := fun _ _ => rfl
 have key : zcl l (b, 1) (zfc q) = if nbq (c :: t) = true then (⟨#[38, 110, 98, 115, 112, 59]⟩, 2) else if c = 38 then (⟨#[38, 97, 109, 112, 59]⟩, 1) else if c = 60 then (⟨#[38, 108, 116, 59]⟩, 1) else if c = 62 then (⟨#[38, 103, 116, 59]⟩, 1) else if q = true /\ c = 34 then (⟨#[38, 113, 117, 111, 116, 59]⟩, 1) else (b, 1) := by
  have hT : zcl l (b, 1) zrm = if nbq (c :: t) = true then (⟨#[38, 110, 98, 115, 112, 59]⟩, 2) else if c = 62 then (⟨#[38, 103, 116, 59]⟩, 1) else if c = 60 then (⟨#[38, 108, 116, 59]⟩, 1) else if c = 38 then (⟨#[38, 97, 109, 112, 59]⟩, 1) else (b, 1) := by
   show stE l (stE l (stE l (stE l (b, 1) _) _) _) _ = _
   rw [hk, hk, hk, hk]
   dsimp only
   rw [p1, p2, p3, p5]
   simp only [beq_iff_eq, eq_comm (b := c)]
   rfl
  by_cases hn : nbq (c :: t) = true
  ·obtain ⟨r, hr⟩ := zep.1 hn
   have hc : c = 194 := by injection hr
   rw [if_pos hn] at hT ⊢
   unfold zfc
   split
   ·rw [zes, hT, hk]
    rw [show zt5.char = ⟨#[34]⟩ from rfl, p4, hc]
    rfl
   ·exact hT
  ·rw [if_neg hn] at hT ⊢
   unfold zfc
   cases q with
   | false =>
    rw [if_neg (by decide), hT]
    by_cases h1 : c = 38
    ·simp [h1]
    ·by_cases h2 : c = 60
     ·simp [h2]
     ·by_cases h3 : c = 62
      ·simp [h3]
      ·simp [h1, h2, h3]
   | true =>
    rw [if_pos rfl, zes, hT, hk, show zt5.char = ⟨#[34]⟩ from rfl, p4]
    by_cases h1 : c = 38
    ·simp [h1]
    ·by_cases h2 : c = 60
     ·simp [h2]
     ·by_cases h3 : c = 62
      ·simp [h3]
      ·by_cases h4 : c = 34
       ·simp [h4]; exact ⟨rfl, rfl⟩
       ·simp [h1, h2, h3, h4, Ne.symm h4]
 rw [key, zdd]
 unfold far one
 by_cases hn : nbq (c :: t) = true
 ·rw [if_pos hn, if_pos hn, if_pos hn]; exact ⟨rfl, rfl⟩
 ·rw [if_neg hn, if_neg hn, if_neg hn]
  repeat' split
  all_goals first | exact ⟨rfl, rfl⟩ | exact ⟨hb, rfl⟩
theorem znp (q : Bool) : ∀ r ∈ zfc q, r.char.size <= 2 /\ r.written.size <= 6 := by
 cases q
 ·show ∀ r ∈ zrm, _
  intro r hr
  simp only [zrm, List.mem_cons, List.not_mem_nil, or_false] at hr
  rcases hr with rfl | rfl | rfl | rfl <;> decide
 ·show ∀ r ∈ zrm ++ [zt5], _
  intro r hr
  simp only [zrm, zt5, List.cons_append, List.nil_append, List.mem_cons, List.not_mem_nil, or_false] at hr
  rcases hr with rfl | rfl | rfl | rfl | rfl <;> decide
theorem zjj (l b : ByteArray) (hb : b.size <= 6) : ∀ (rs : List Rep), (∀ r ∈ rs, r.char.size <= 2 /\ r.written.size <= 6) -> (zcl l (b, 1) rs).1.size <= 6 /\ (zcl l (b, 1) rs).2 <= 2 := by
 have key : ∀ (rs : List Rep) (st : ByteArray × Nat), (∀ r ∈ rs, r.char.size <= 2 /\ r.written.size <= 6) -> st.1.size <= 6 /\ st.2 <= 2 -> (zcl l st rs).1.size <= 6 /\ (zcl l st rs).2 <= 2 := by
  intro rs
  induction rs with
  | nil => exact fun _ _ h => h
  | cons r rs ih =>
   intro st hm h
   refine ih _ (fun r hr => hm r (List.mem_cons_of_mem _ hr)) ?_
   unfold stE
   have := hm r List.mem_cons_self
   split
   ·exact ⟨this.2, this.1⟩
   ·exact h
 exact fun rs h => key rs _ h ⟨hb, by show 1 <= 2; omega⟩
theorem zuu (s p : ByteArray) (w : World) : Calls Tryz.prog 220 #[.string s, .string p] w fun e w' => e = .returned (.bool (zlz p s)) /\ ∃ m, w' = w.drewN m :=
 (zrv s p w).mono fun _ _ h => ⟨h.1, 0, h.2⟩
def Lies (w : World) (g : Nat) (rs : List Rep) : Prop := ∀ k (h : k < rs.length), w.cell? ⟨g, k * 2, none⟩ = some (.string rs[k].char) /\ w.cell? ⟨g, k * 2 + 1, none⟩ = some (.string rs[k].written)
theorem Lies.kept {K : Nat -> Prop} {w w' : World} {g : Nat} {rs : List Rep} (h : Lies w g rs) (k : Kept K w w') (hg : K g) : Lies w' g rs := fun j hj => by
 obtain ⟨h1, h2⟩ := h j hj
 exact ⟨by rw [k.cell (p := ⟨g, j * 2, none⟩) hg]; exact h1, by rw [k.cell (p := ⟨g, j * 2 + 1, none⟩) hg]; exact h2⟩
def zb4 : Array Value := #[.string ⟨#[38]⟩, .string ⟨#[38, 97, 109, 112, 59]⟩, .string ⟨#[60]⟩, .string ⟨#[38, 108, 116, 59]⟩, .string ⟨#[62]⟩, .string ⟨#[38, 103, 116, 59]⟩, .string ⟨#[194, 160]⟩, .string ⟨#[38, 110, 98, 115, 112, 59]⟩]
theorem zdr (w : World) :
  Calls Tryz.prog 198 #[] w fun e w' => e = .returned (.slice (some ⟨w.heap.size, 0, none⟩) 4 4) /\ w' = w.alloc (.cells zb4 242) := by
 go_enter Tryz.func198, Tryz.ntmps198
 go_wp2
 go_ret
 exact ⟨rfl, rfl⟩
theorem ze2 (s : ByteArray) (q : Bool) (rs : List Rep) (hrs : rs = zfc q) (g cap : Nat) (K : Nat -> Prop) (w : World) (hK : ∀ k, K k -> k < w.heap.size) (hs : s.size < 1000000) (hg : K g) (hL : Lies w g rs) :
  Calls Tryz.prog 197 #[.string s, .slice (some ⟨g, 0, none⟩) rs.length cap] w fun e w' => e = .returned (.string ⟨(esc q s.data.toList).toArray⟩) /\ Kept K w w' := by
 have hshort : ∀ r ∈ rs, r.char.size <= 2 /\ r.written.size <= 6 := by rw [hrs]; exact znp q
 have hrl : rs.length <= 5 := by rw [hrs]; cases q <;> decide
 have hl0 : s.data.toList.length = s.size := rfl
 obtain ⟨A, hA⟩ : ∃ A, esc q s.data.toList = A := ⟨_, rfl⟩
 rw [hA]
 have HA : Hid ([] ++ esc q (s.data.toList.drop 0) = A) := hA
 have HS : Hid (rs = zfc q) := hrs
 have HL : Hid (Lies w g rs) := hL
 have HH : Hid (∀ r ∈ rs, r.char.size <= 2 /\ r.written.size <= 6) := hshort
 clear hA hrs hL hshort
 obtain ⟨B, hB⟩ : ∃ B, w.heap.size = B := ⟨_, rfl⟩
 have hKB : ¬ K B := fun h => by have := hK B h; omega
 obtain ⟨n, hn⟩ : ∃ n, rs.length = n := ⟨_, rfl⟩
 rw [hn] at hrl ⊢
 go_enter Tryz.func197, Tryz.ntmps197
 go_wp2_with fail
 go_loopg [6] s.size (fun gm i wr => ∃ (k : Nat) (out : List UInt8), gm = s.size - k /\ k <= s.size /\ i = .int .i64 k /\ out ++ esc q (s.data.toList.drop k) = A /\ out.length <= 6 * k /\ Bld K wr B out /\ Kept K w wr)
 case atStart =>
  refine ⟨0, [], rfl, Nat.zero_le _, rfl, HA.out, Nat.zero_le _, ⟨hKB, none, none, 0, ?_, .inl rfl, ⟨rfl, Nat.le_refl _, Nat.zero_le _, .inl ⟨rfl, rfl⟩⟩⟩, (Kept.refl K w).alloc hK _⟩
  rw [<- hB]
  exact heap_alloc_new w _
 case round =>
  clear HA
  obtain ⟨k, out, hgk, hk, rfl, HO, hol, hbld, hkp⟩ := hrel
  have HO : Hid (out ++ esc q (s.data.toList.drop k) = A) := HO
  have hKr : ∀ k, K k -> k < wr.heap.size := fun k hk => ltl (hK k hk) hkp.size
  by_cases hlt : k < s.size
  ·have hone : (s.extract k (k + 1)).data.toList = [s[k]] := by
    rw [zca, List.drop_take, Nat.add_sub_cancel_left, zbl hlt]
    rfl
   have hosz : (s.extract k (k + 1)).size = 1 := congrArg List.length hone
   obtain ⟨K2, hK2⟩ : ∃ K2 : Nat -> Prop, (fun k => k < wr.heap.size) = K2 := ⟨_, rfl⟩
   have hkw : ∀ k, k < wr.heap.size -> K2 k := fun k hk => by rw [<- hK2]; exact hk
   have hkv : ∀ k, K2 k -> k < wr.heap.size := fun k hk => by rw [<- hK2] at hk; exact hk
   have hlr := HL.out.kept hkp hg
   have HB : Hid (∀ W, Kept K2 wr W -> Bld K W B out) := fun W h => hbld.kept fun g _ hg => h.block g (hkw g hg)
   have HKW : Hid (∀ W, Kept K2 wr W -> Kept K w W) := fun W h => hkp.trans (h.mono fun k hk => hkw k (hKr k hk))
   have hg2 := hkw g (hKr g hg)
   have HLR : Hid (Lies wr g rs) := hlr
   clear hlr hbld hK2 hkw hkp
   obtain ⟨WR, hWR⟩ : ∃ W, wr = W := ⟨_, rfl⟩
   rw [hWR] at hkv hKr HB HKW HLR ⊢
   clear hWR
   go_wp2_with fail
   go_loopg [7, 8, 22] n (fun gm wv nv iv wi => ∃ j : Nat, gm = n - j /\ j <= n /\ iv = .int .i64 j /\ wv = .string (zcl (s.extract k s.size) (s.extract k (k + 1), 1) (rs.take j)).1 /\ nv = .int .i64 (zcl (s.extract k s.size) (s.extract k (k + 1), 1) (rs.take j)).2 /\ Kept K2 WR wi)
   case atStart =>
    exact ⟨0, rfl, Nat.zero_le _, rfl, rfl, rfl, Kept.refl _ _⟩
   case round =>
    obtain ⟨j, hgj, hj, rfl, rfl, rfl, hkj⟩ := hrel
    by_cases hjn : j < n
    ·have hjr : j < rs.length := by omega
     have hlies := HLR.out.kept hkj hg2
     obtain ⟨hc1, hc2⟩ := hlies j hjr
     have hsh := HH.out rs[j] (List.getElem_mem hjr)
     have HF : Hid (zcl (s.extract k s.size) (s.extract k (k + 1), 1) (rs.take (j + 1)) = stE (s.extract k s.size) (zcl (s.extract k s.size) (s.extract k (k + 1), 1) (rs.take j)) rs[j]) := by
      show zcl _ _ _ = _
      rw [List.take_succ_eq_append_getElem hjr, zes]
     obtain ⟨r, hr⟩ : ∃ r, rs[j] = r := ⟨_, rfl⟩
     rw [hr] at hc1 hc2 hsh HF
     obtain ⟨st, hst⟩ : ∃ st, zcl (s.extract k s.size) (s.extract k (k + 1), 1) (rs.take j) = st := ⟨_, rfl⟩
     rw [hst] at HF ⊢
     obtain ⟨a, b⟩ := r
     dsimp only at hc1 hc2 hsh
     have hpre := fun X => zuu (s.extract k s.size) a X
     have HF2 : Hid (zcl (s.extract k s.size) (s.extract k (k + 1), 1) (rs.take (j + 1)) = if zlz a (s.extract k s.size) = true then (b, a.size) else st) := HF.out
     obtain ⟨p, hp⟩ : ∃ p, zlz a (s.extract k s.size) = p := ⟨_, rfl⟩
     rw [hp] at hpre HF2
     have hkn : ∀ o m, Kept K2 WR ((wr.alloc o).drewN m) := fun o m => (hkj.alloc (fun k hk => ltl (hkv k hk) hkj.size) o).drewN m
     clear hst hr hp HF HO hlies
     cases p with
     | false =>
      go_wp2_with fail
      go_quiet ((go_at_call 220; exact Calls.quiet_of (hpre _)))
      go_wp2
      go_roundg (n - (j + 1))
      case rel => exact ⟨j + 1, rfl, by omega, by go_num, by rw [HF2.out]; rfl, by rw [HF2.out]; rfl, hkn _ _⟩
      case measure => omega
     | true =>
      go_wp2_with fail
      go_quiet ((go_at_call 220; exact Calls.quiet_of (hpre _)))
      go_wp2_with fail
      go_quiet (fail)
      go_wp2
      go_roundg (n - (j + 1))
      case rel => exact ⟨j + 1, rfl, by omega, by go_num, by rw [HF2.out]; rfl, by rw [HF2.out]; rfl, hkn _ _⟩
      case measure => omega
    ·have hjn' : j = n := by omega
     subst hjn'
     have hb := HB.out wr hkj
     have hkw := HKW.out wr hkj
     have HFR := zi9 q s[k] (s.extract k s.size) (s.extract k (k + 1)) (s.data.toList.drop (k + 1)) (by
      rw [zca, show s.data.toList.take s.size = s.data.toList from List.take_length, zbl hlt]) hone
     have hFS := zjj (s.extract k s.size) (s.extract k (k + 1)) (by omega) rs HH.out
     have et : rs.take j = rs := by rw [<- hn, List.take_length]
     rw [et]
     clear et
     rw [<- HS.out] at HFR
     have hne : s.data.toList.drop k ≠ [] := by rw [zbl hlt]; exact List.cons_ne_nil _ _
     have HE : Hid ((out ++ front q (s.data.toList.drop k)) ++ esc q (s.data.toList.drop (k + far (s.data.toList.drop k))) = A) := by
      have := HO.out
      rw [zkd q hne, List.drop_drop] at this
      show (out ++ front q _) ++ _ = A
      simpa using this
     have hfar := zoy hne
     rw [List.length_drop, hl0] at hfar
     have hfl := zh2 q hne
     rw [<- zbl hlt] at HFR
     obtain ⟨L, hL⟩ : ∃ L, front q (s.data.toList.drop k) = L := ⟨_, rfl⟩
     obtain ⟨f, hf⟩ : ∃ f, far (s.data.toList.drop k) = f := ⟨_, rfl⟩
     rw [hL, hf] at HFR
     rw [hL, hf] at HE hfl
     rw [hf] at hfar
     obtain ⟨st, hst⟩ : ∃ st, zcl (s.extract k s.size) (s.extract k (k + 1), 1) rs = st := ⟨_, rfl⟩
     rw [hst] at HFR hFS ⊢
     obtain ⟨tx, m⟩ := st
     dsimp only at HFR hFS ⊢
     obtain ⟨htx, rfl⟩ := HFR
     have htl : tx.data.toList.length = tx.size := rfl
     have hws := znh K B out tx wr hb (fun k hk => ltl (hKr k hk) hkj.size) (by omega)
     rw [htx] at hws htl
     clear hst hL hf hne hn HB HKW HO HLR hb hone
     go_wp2_with fail
     refine hws.mono ?_
     rintro e w1 ⟨rfl, hb1, hk1⟩
     go_wp2
     go_roundg (s.size - (k + m))
     case rel => exact ⟨k + m, out ++ L, rfl, by omega, by go_num, HE.out, by rw [List.length_append]; omega, hb1, hkw.trans hk1⟩
     case measure => omega
  ·have hAe : out = A := by
    have := HO.out
    rw [List.drop_eq_nil_of_le (show s.data.toList.length <= k by show s.size <= k; omega), zni, List.append_nil] at this
    exact this
   subst hAe
   clear HO
   have hstr := zk6 K B out wr hbld hKr (by omega)
   go_wp2_with fail
   refine hstr.mono ?_
   rintro e w1 ⟨rfl, hk1⟩
   go_wp2
   go_ret
   exact ⟨rfl, hkp.trans hk1⟩
theorem zuj {w : World} {g : Nat} {cs : Array Value} {tt : TypeId} (hb : w.heap[g]? = some (.cells cs tt (0, 0))) (hc : cs.toList.take 8 = zb4.toList) : Lies w g (zfc false) := by
 have key : ∀ i, i < 8 -> w.cell? ⟨g, i, none⟩ = zb4.toList[i]? := fun i hi => by
  rw [zaa hb, <- hc, List.getElem?_take, if_pos hi, Array.getElem?_toList]
 intro k hk
 match k, hk with
 | 0, _ => exact ⟨key 0 (by decide), key 1 (by decide)⟩
 | 1, _ => exact ⟨key 2 (by decide), key 3 (by decide)⟩
 | 2, _ => exact ⟨key 4 (by decide), key 5 (by decide)⟩
 | 3, _ => exact ⟨key 6 (by decide), key 7 (by decide)⟩
 | n + 4, h => exact absurd h (by show ¬ (n + 4 < 4); omega)
def zdn : Array Value := #[.string ⟨#[34]⟩, .string ⟨#[38, 113, 117, 111, 116, 59]⟩]
theorem zuf {w : World} {g : Nat} {cs : Array Value} {tt : TypeId} (hb : w.heap[g]? = some (.cells cs tt (0, 0))) (hc : cs.toList.take 10 = zb4.toList ++ zdn.toList) : Lies w g (zfc true) := by
 have key : ∀ i, i < 10 -> w.cell? ⟨g, i, none⟩ = (zb4.toList ++ zdn.toList)[i]? := fun i hi => by
  rw [zaa hb, <- hc, List.getElem?_take, if_pos hi, Array.getElem?_toList]
 intro k hk
 match k, hk with
 | 0, _ => exact ⟨key 0 (by decide), key 1 (by decide)⟩
 | 1, _ => exact ⟨key 2 (by decide), key 3 (by decide)⟩
 | 2, _ => exact ⟨key 4 (by decide), key 5 (by decide)⟩
 | 3, _ => exact ⟨key 6 (by decide), key 7 (by decide)⟩
 | 4, _ => exact ⟨key 8 (by decide), key 9 (by decide)⟩
 | n + 5, h => exact absurd h (by show ¬ (n + 5 < 5); omega)
theorem zpj (s : ByteArray) (K : Nat -> Prop) (w : World) (hK : ∀ k, K k -> k < w.heap.size) (hs : s.size < 1000000) :
  Calls Tryz.prog 174 #[.string s] w fun e w' => e = .returned (.string ⟨(esc false s.data.toList).toArray⟩) /\ Kept K w w' := by
 have h1 := zdr w
 obtain ⟨W, hW⟩ : ∃ W, w.alloc (.cells zb4 242) = W := ⟨_, rfl⟩
 obtain ⟨g, hg⟩ : ∃ g, w.heap.size = g := ⟨_, rfl⟩
 have hb : W.heap[g]? = some (.cells zb4 242 (0, 0)) := by rw [<- hW, <- hg]; exact heap_alloc_new w _
 obtain ⟨K', hK'⟩ : ∃ K' : Nat -> Prop, (fun k => K k \/ k = g) = K' := ⟨_, rfl⟩
 have hKW : ∀ k, K' k -> k < W.heap.size := fun k hk => by
  rw [<- hK'] at hk
  rcases hk with hk | rfl
  ·have := hK k hk
   rw [<- hW]
   simp
   omega
  ·exact zac hb
 have hkk : Kept K w W := by rw [<- hW]; exact (Kept.refl K w).alloc hK _
 have h2 := ze2 s false (zfc false) rfl g 4 K' W hKW hs (by rw [<- hK']; exact .inr rfl) (zuj hb rfl)
 have hmono : ∀ k, K k -> K' k := fun k hk => by rw [<- hK']; exact .inl hk
 rw [hW, hg] at h1
 have h2 : Calls Tryz.prog 197 #[.string s, .slice (some ⟨g, 0, none⟩) 4 4] W fun e w' => e = .returned (.string ⟨(esc false s.data.toList).toArray⟩) /\ Kept K' W w' := h2
 clear hW hg hb hK'
 go_enter Tryz.func174, Tryz.ntmps174
 go_wp2_with fail
 refine h1.mono ?_
 rintro e w1 ⟨rfl, rfl⟩
 go_wp2_with fail
 refine h2.mono ?_
 rintro e w2 ⟨rfl, hk2⟩
 go_wp2
 go_ret
 exact ⟨rfl, hkk.trans (hk2.mono hmono)⟩
theorem zs9 : (Tryz.prog.info? 242).map (fun i => (i.zero, i.size, i.bytes)) = some (some (.agg #[.string ⟨#[]⟩, .string ⟨#[]⟩]), 2, 32) := by kernel_rfl
theorem zpi (W : World) (g q : Nat) (hg : W.heap[g]? = some (.cells zb4 242 (0, 0))) (hq : W.heap[q]? = some (.cells zdn 242 (0, 0))) :
  ∃ cap W' cs, (Builtin.append_ #[228, 228] 228 #[.slice (some ⟨g, 0, none⟩) 4 4, .slice (some ⟨q, 0, none⟩) 1 1]).run Tryz.prog W = .ok (.slice (some ⟨W.heap.size, 0, none⟩) 5 cap) W' /\ W' = W.drew.alloc (.cells cs 242) /\ cs.toList.take 10 = zb4.toList ++ zdn.toList := by
 obtain ⟨i, hi, hp⟩ := Option.map_eq_some_iff.1 zs9
 have hz : i.zero = some (.agg #[.string ⟨#[]⟩, .string ⟨#[]⟩]) := congrArg (·.1) hp
 have hsz : i.size = 2 := congrArg (·.2.1) hp
 have hby : i.bytes = 32 := congrArg (·.2.2) hp
 have hold : (Builtin.firstCells i.size 4 (.slice (some ⟨g, 0, none⟩) 4 4)).run Tryz.prog W.drew = .ok zb4.toList.toArray W.drew := by
  refine run_firstCells_some W.drew i.size 4 ⟨g, 0, none⟩ 4 4 zb4.toList (by rw [hsz]; rfl) fun j u hj => ?_
  have hg' : W.drew.heap[g]? = some (.cells zb4 242 (0, 0)) := hg
  rw [Addr.add_lit, Nat.zero_add, zaa hg', <- Array.getElem?_toList, hj]
 have hsrc : Src Tryz.prog i.size 228 (.slice (some ⟨q, 0, none⟩) 1 1) 1 zdn.toList W := by
  refine Src.ofSlice W Tryz.underlying228 ⟨q, 0, none⟩ 1 1 zdn.toList (by rw [hsz]; rfl) (fun j u hj => ?_) (fun u hu => ?_)
  ·rw [Addr.add_lit, Nat.zero_add, zaa hq, <- Array.getElem?_toList, hj]
  ·simp only [zdn, List.mem_cons, List.not_mem_nil, or_false] at hu
   rcases hu with rfl | rfl <;> rfl
 have hr := run_append_grow_src (P := Tryz.prog) W 228 228 228 242 i _ Tryz.underlying228 hi hz (some ⟨g, 0, none⟩) 4 4 zb4.toList hold (.slice (some ⟨q, 0, none⟩) 1 1) 1 zdn.toList hsrc (by omega) (by omega) (growslice_fits (by omega) (by rw [hby]; omega))
 exact ⟨_, _, _, hr, rfl, by rw [Array.toList_append]; rfl⟩
theorem zof (s : ByteArray) (K : Nat -> Prop) (w : World) (hK : ∀ k, K k -> k < w.heap.size) (hs : s.size < 1000000) :
  Calls Tryz.prog 196 #[.string s] w fun e w' => e = .returned (.string ⟨(esc true s.data.toList).toArray⟩) /\ Kept K w w' := by
 have h1 := zdr w
 obtain ⟨W, hW⟩ : ∃ W, w.alloc (.cells zb4 242) = W := ⟨_, rfl⟩
 obtain ⟨g, hg⟩ : ∃ g, w.heap.size = g := ⟨_, rfl⟩
 have hb : W.heap[g]? = some (.cells zb4 242 (0, 0)) := by rw [<- hW, <- hg]; exact heap_alloc_new w _
 have hKW : ∀ k, K k -> k < W.heap.size := fun k hk => by
  have := hK k hk
  rw [<- hW]
  simp
  omega
 have hkk : Kept K w W := by rw [<- hW]; exact (Kept.refl K w).alloc hK _
 rw [hW, hg] at h1
 clear hW hg
 obtain ⟨cap, W2, cs, hrun, hW2, hcs⟩ := zpi (W.alloc (.cells zdn 242)) g W.heap.size (zbg hb _) (heap_alloc_new W _)
 obtain ⟨p, hp⟩ : ∃ p, (W.alloc (.cells zdn 242)).heap.size = p := ⟨_, rfl⟩
 rw [hp] at hrun
 have hb2 : W2.heap[p]? = some (.cells cs 242 (0, 0)) := by rw [hW2, <- hp]; exact heap_alloc_new _ _
 have hkk2 : Kept K w W2 := by
  rw [hW2]
  exact ((hkk.alloc hKW _).drew).alloc (fun k hk => by have := hKW k hk; simp; omega) _
 obtain ⟨K', hK'⟩ : ∃ K' : Nat -> Prop, (fun k => K k \/ k = p) = K' := ⟨_, rfl⟩
 have hK2 : ∀ k, K' k -> k < W2.heap.size := fun k hk => by
  rw [<- hK'] at hk
  rcases hk with hk | rfl
  ·exact ltl (hK k hk) hkk2.size
  ·exact zac hb2
 have h2 := ze2 s true (zfc true) rfl p cap K' W2 hK2 hs (by rw [<- hK']; exact .inr rfl) (zuf hb2 hcs)
 have h2 : Calls Tryz.prog 197 #[.string s, .slice (some ⟨p, 0, none⟩) 5 cap] W2 fun e w' => e = .returned (.string ⟨(esc true s.data.toList).toArray⟩) /\ Kept K' W2 w' := h2
 have hmono : ∀ k, K k -> K' k := fun k hk => by rw [<- hK']; exact .inl hk
 clear hb2 hW2 hcs hp hK' hb
 go_enter Tryz.func196, Tryz.ntmps196
 go_wp2_with fail
 refine h1.mono ?_
 rintro e w1 ⟨rfl, rfl⟩
 go_wp2_with (at_builtin; refine zal (w' := W2) rfl (.tmp 4) (.tmp 6) 228 228 rfl _ _ (.slice (some ⟨p, 0, none⟩) 5 cap) rfl rfl hrun ?_)
 refine h2.mono ?_
 rintro e w2 ⟨rfl, hk2⟩
 go_wp2
 go_ret
 exact ⟨rfl, hkk2.trans (hk2.mono hmono)⟩
end
section
open Go.RowKit
set_option linter.unusedVariables false
set_option maxRecDepth 20000
set_option maxHeartbeats 2000000
structure Cf where
 b : Nat
 d : Nat
 sr : Bool
 g : Nat
 n : Nat
def Pg (K : Nat -> Prop) (w : World) (c : Cf) (l : List UInt8) : Prop :=
 ¬ K c.b /\ (∀ k, K k -> k < w.heap.size) /\ ∃ p ao cap, w.heap[c.b]? = some (.cells #[.pointer p, .slice ao l.length cap, .pointer (some ⟨c.d, 0, none⟩), .bool c.sr, .slice (some ⟨c.g, 0, none⟩) c.n c.n] 117 (0, 0)) /\ (p = none \/ p = some ⟨c.b, 0, none⟩) /\ Own (fun k => K k \/ k = c.b) w 5 ao l.length cap (bvs l)
theorem zu6 : liesAt Tryz.prog Tryz.prog.depth 117 (5 / Tryz.prog.cellsOf 117) 0 114 1 = true := by kernel_rfl
theorem Pg.lt {K : Nat -> Prop} {w : World} {c : Cf} {l : List UInt8} (h : Pg K w c l) : ∀ k, K k -> k < w.heap.size := h.2.1
theorem Pg.out {K : Nat -> Prop} {w : World} {c : Cf} {l : List UInt8} (h : Pg K w c l) : ¬ K c.b /\ c.b < w.heap.size := by
 obtain ⟨h1, h2, p, ao, cap, hb, hp, ho⟩ := h
 exact ⟨h1, zac hb⟩
theorem Pg.cells {K : Nat -> Prop} {w : World} {c : Cf} {l : List UInt8} (h : Pg K w c l) : w.cell? ⟨c.b, 2, none⟩ = some (.pointer (some ⟨c.d, 0, none⟩)) /\ w.cell? ⟨c.b, 3, none⟩ = some (.bool c.sr) /\ w.cell? ⟨c.b, 4, none⟩ = some (.slice (some ⟨c.g, 0, none⟩) c.n c.n) := by
 obtain ⟨h1, h2, p, ao, cap, hb, hp, ho⟩ := h
 exact ⟨by rw [zaa hb]; rfl, by rw [zaa hb]; rfl, by rw [zaa hb]; rfl⟩
theorem Pg.up {K : Nat -> Prop} {w V : World} {c : Cf} {l : List UInt8} (h : Pg K w c l) (hk : Kept (fun k => k < w.heap.size) w V) : Pg (fun k => K k \/ (w.heap.size <= k /\ k < V.heap.size)) V c l := by
 obtain ⟨h1, h2, p, ao, cap, hb, hp, ho⟩ := h
 have hlt := zac hb
 refine ⟨fun h => ?_, fun k h => ?_, p, ao, cap, by rw [hk.block _ hlt]; exact hb, hp, ?_⟩
 ·rcases h with h | h
  ·exact h1 h
  ·omega
 ·rcases h with h | h
  ·exact ltl (h2 k h) hk.size
  ·exact h.2
 ·refine ho.to (fun g hg h => ?_) (fun g hg => hk.block g (ho.out hg).2)
  have ⟨a, b⟩ := ho.out hg
  rcases h with (h | h) | h
  ·exact a (.inl h)
  ·omega
  ·exact a (.inr h)
theorem Pg.less {K K' : Nat -> Prop} {w : World} {c : Cf} {l : List UInt8} (h : Pg K' w c l) (hs : ∀ k, K k -> K' k) : Pg K w c l := by
 obtain ⟨h1, h2, p, ao, cap, hb, hp, ho⟩ := h
 refine ⟨fun h => h1 (hs _ h), fun k h => h2 k (hs k h), p, ao, cap, hb, hp, ho.to (fun g hg h => ?_) (fun g hg => rfl)⟩
 have ⟨a, b⟩ := ho.out hg
 rcases h with h | h
 ·exact a (.inl (hs _ h))
 ·exact a (.inr h)
theorem zps (b : Nat) (w : World) (h0 : w.cell? ⟨b, 0, none⟩ = some (.pointer none)) (hsh : w.shape? b = some (117, 5)) (hfz : w.frozen? ⟨b, 0, none⟩ = false) :
  Calls Tryz.prog 199 #[.pointer (some ⟨b, 0, none⟩)] w fun e w' => e = .returned (.tuple #[]) /\ w' = w.setCell ⟨b, 0, none⟩ (.pointer (some ⟨b, 0, none⟩)) := by
 obtain ⟨j, hj, hjs⟩ := Option.map_eq_some_iff.1 zrk
 go_enter Tryz.func199, Tryz.ntmps199
 go_wp2
 rw [Lib.run_to_unsafe w ⟨b, 0, none⟩ Tryz.underlying112 Tryz.underlying243 hj (by rw [hjs]; decide) hsh (Nat.zero_lt_succ 4)]
 simp only [Result.andThen]
 rw [Oper.upon_value]
 go_wp2
 rw [run_callFunc_extern Tryz.func221 (by kernel_rfl) (by kernel_rfl) (by kernel_rfl) (e := Extern.AbiNoEscape.same) (by kernel_rfl)]
 rw [Lib.run_noEscape]
 simp only [Result.andThen]
 rw [Oper.upon_value]
 go_wp2
 rw [Lib.run_from_unsafe w ⟨b, 0, none⟩ Tryz.underlying243 Tryz.underlying112 hj hsh zu6]
 simp only [Result.andThen]
 rw [Oper.upon_value]
 go_wp2
 go_end0
 exact ⟨rfl, rfl⟩
theorem ccG (K : Nat -> Prop) (c : Cf) (l : List UInt8) (w : World) (h : Pg K w c l) :
  Calls Tryz.prog 199 #[.pointer (some ⟨c.b, 0, none⟩)] w fun e w' => e = .returned (.tuple #[]) /\
   (∃ ao cap, w'.heap[c.b]? = some (.cells #[.pointer (some ⟨c.b, 0, none⟩), .slice ao l.length cap, .pointer (some ⟨c.d, 0, none⟩), .bool c.sr, .slice (some ⟨c.g, 0, none⟩) c.n c.n] 117 (0, 0)) /\ Own (fun k => K k \/ k = c.b) w' 5 ao l.length cap (bvs l)) /\ Kept K w w' := by
 obtain ⟨hKb, hlt, p, ao, cap, hb, hp, hown⟩ := h
 rcases hp with rfl | rfl
 ·refine (zps c.b w (by rw [zaa hb]; rfl) (by simp [World.shape?, hb]) (zam hb 0)).mono ?_
  rintro e w1 ⟨rfl, rfl⟩
  exact ⟨rfl, ⟨ao, cap, zai hb 0 _, hown.setCell (p := ⟨c.b, 0, none⟩) (.inr rfl) _⟩, (Kept.refl K w).setCell (p := ⟨c.b, 0, none⟩) hKb _⟩
 ·refine (zq8 c.b w (by rw [zaa hb]; rfl)).mono ?_
  rintro e w1 ⟨rfl, rfl⟩
  exact ⟨rfl, ⟨ao, cap, hb, hown⟩, Kept.refl K w1⟩
theorem ztl (K : Nat -> Prop) (c : Cf) (l : List UInt8) (s : ByteArray) (w : World) (h : Pg K w c l) (hl : l.length + s.size <= 1099511627776) :
  Calls Tryz.prog 175 #[.pointer (some ⟨c.b, 0, none⟩), .string s] w fun e w' => e = .returned (.tuple #[.int .i64 s.size, .nilIface]) /\ Pg K w' c (l ++ s.data.toList) /\ Kept K w w' := by
 obtain ⟨i0, hi, hz0, hz1, hz2⟩ := info_parts zs6
 have hz3 : i0.bytes <= 64 := by omega
 have hcc := ccG K c l w h
 have hKb : ¬ K c.b := h.1
 have hK := h.lt
 clear h
 obtain ⟨b, d, sr, g, n0⟩ := c
 dsimp only at *
 go_enter Tryz.func175, Tryz.ntmps175
 go_wp2_with fail
 refine hcc.mono ?_
 rintro e w1 ⟨rfl, ⟨ao, cap, hb, hown⟩, hk1⟩
 have c1 : w1.cell? ⟨b, 1, none⟩ = some (.slice ao l.length cap) := by rw [zaa hb]; rfl
 have hK1 : ∀ k, (K k \/ k = b) -> k < w1.heap.size := by
  rintro k (hk | rfl)
  ·exact ltl (hK k hk) hk1.size
  ·exact zac hb
 obtain ⟨K', hK'⟩ : ∃ K' : Nat -> Prop, (fun k => K k \/ k = b) = K' := ⟨_, rfl⟩
 have hKK : ∀ k, K k -> K' k := fun k hk => by rw [<- hK']; exact .inl hk
 have hKb' : K' b := by rw [<- hK']; exact .inr rfl
 have HKe : Hid ((fun k => K k \/ k = b) = K') := hK'
 rw [hK'] at hown
 have hK2 : ∀ k, K' k -> k < w1.heap.size := fun k hk => hK1 k (by rw [<- hK'] at hk; exact hk)
 clear hcc hK' hK1
 obtain ⟨n, hn⟩ : ∃ n, l.length = n := ⟨_, rfl⟩
 rw [hn] at hl c1 hown hb
 go_wp2_with (at_builtin; refine zgd (K := K') rfl (.tmp 12) (.tmp 13) 52 9 5 rfl i0 (.int .u8 0) Tryz.underlying52 Tryz.underlying9 hi hz0 hz1 rfl hz3 ao n cap (bvs l) rfl s rfl s.size rfl hl hown hK2 ?_)
 intro ao2 cap2 w2 own2 kept2
 have hb2 : w2.heap[b]? = some (.cells #[.pointer (some ⟨b, 0, none⟩), .slice ao n cap, .pointer (some ⟨d, 0, none⟩), .bool sr, .slice (some ⟨g, 0, none⟩) n0 n0] 117 (0, 0)) := by rw [kept2.block b hKb']; exact hb
 have d1 : w2.cell? ⟨b, 1, none⟩ = some (.slice ao n cap) := by rw [zaa hb2]; rfl
 have f1 : w2.frozen? ⟨b, 1, none⟩ = false := zam hb2 1
 clear c1
 go_wp2
 go_ret2
 have hkf := (hk1.trans (kept2.mono hKK)).setCell (p := ⟨b, 1, none⟩) hKb (.slice ao2 (n + s.size) cap2)
 refine ⟨rfl, ⟨hKb, fun k hk => ltl (hK k hk) hkf.size, some ⟨b, 0, none⟩, ao2, cap2, ?_, .inr rfl, ?_⟩, hkf⟩
 ·rw [zai hb2, List.length_append, hn]
  rfl
 ·show Own (fun k => K k \/ k = b) _ _ _ _ _ _
  rw [HKe.out]
  refine Own.setCell (p := ⟨b, 1, none⟩) ?_ hKb' _
  refine own2.cast ?_ ?_
  ·rw [List.length_append, hn]; rfl
  ·rw [zgv]
theorem znm (K : Nat -> Prop) (c : Cf) (l : List UInt8) (w : World) (h : Pg K w c l) (hl : l.length <= 1099511627776) :
  Calls Tryz.prog 62 #[.pointer (some ⟨c.b, 0, none⟩)] w fun e w' => e = .returned (.string ⟨l.toArray⟩) /\ Kept K w w' := by
 have hK := h.lt
 obtain ⟨hKb, -, p, ao, cap, hbk, _, hown⟩ := h
 obtain ⟨b, d, sr, g0, n0⟩ := c
 dsimp only at *
 have hUS0 := fun (W : World) (q : Option Addr) => Lib.run_unsafeString_none (P := Tryz.prog) W 165 3 9 q
 rcases hown.2.2.2 with ⟨rfl, rfl⟩ | ⟨g, cur, rfl, hKg, hg, hcs, htk⟩
 ·have hl0 : l = [] := List.eq_nil_of_length_eq_zero (by have := hown.2.1; omega)
  subst hl0
  have c1 : w.drew.cell? ⟨b, 1, none⟩ = some (.slice none 0 0) := by
   have : w.drew.heap[b]? = some (.cells #[.pointer p, .slice none 0 0, .pointer (some ⟨d, 0, none⟩), .bool sr, .slice (some ⟨g0, 0, none⟩) n0 n0] 117 (0, 0)) := hbk
   rw [zaa this]; rfl
  have hSD : (Builtin.unsafeSliceData_ #[52] 165 #[.slice none 0 0]).run Tryz.prog w.drew = .ok (.pointer none) w.drew := rfl
  have hUS := hUS0 w.drew none
  clear hUS0 hown hbk hl
  go_enter Tryz.func62, Tryz.ntmps62
  go_wp2
  go_region
  all_goals (go_wp2; go_ret; exact ⟨rfl, (Kept.refl K w).drew⟩)
 ·have hKg' : ¬ K g := fun hk => hKg (.inl hk)
  by_cases h0 : l = []
  ·subst h0
   by_cases hc0 : cap = 0
   ·subst hc0
    have c1 : w.drew.cell? ⟨b, 1, none⟩ = some (.slice (some ⟨g, 0, none⟩) 0 0) := by
     have : w.drew.heap[b]? = some (.cells #[.pointer p, .slice (some ⟨g, 0, none⟩) 0 0, .pointer (some ⟨d, 0, none⟩), .bool sr, .slice (some ⟨g0, 0, none⟩) n0 n0] 117 (0, 0)) := hbk
     rw [zaa this]; rfl
    have hSD : (Builtin.unsafeSliceData_ #[52] 165 #[.slice (some ⟨g, 0, none⟩) 0 0]).run Tryz.prog w.drew = .ok (.pointer (some ⟨w.drew.heap.size, 0, none⟩)) (w.drew.alloc (.view ⟨g, 0, none⟩ 5)) :=
     Lib.run_unsafeSliceData_zero w.drew _ _ 5 Tryz.underlying165 ⟨g, 0, none⟩ 0 (5, cur.size) (by have hg' : w.drew.heap[g]? = some (.cells cur 5 (0, 0)) := hg; simp [World.shape?, hg'])
    have c2 : (w.alloc (.view ⟨g, 0, none⟩ 5)).cell? ⟨b, 1, none⟩ = some (.slice (some ⟨g, 0, none⟩) 0 0) := by
     have : (w.alloc (.view ⟨g, 0, none⟩ 5)).heap[b]? = _ := zbg hbk _
     rw [zaa this]; rfl
    have c3 : (w.alloc (.view ⟨g, 0, none⟩ 5)).drew.cell? ⟨b, 1, none⟩ = some (.slice (some ⟨g, 0, none⟩) 0 0) := c2
    have c0 : w.cell? ⟨b, 1, none⟩ = some (.slice (some ⟨g, 0, none⟩) 0 0) := c1
    have hUS := hUS0
    have hkk : ∀ o, Kept K w (w.alloc o).drew := fun o => ((Kept.refl K w).alloc hK o).drew
    clear hUS0 hown hbk hl hg hcs htk hKg hKg'
    go_enter Tryz.func62, Tryz.ntmps62
    go_wp2
    go_region
    all_goals (go_wp2; go_ret; exact ⟨rfl, hkk _⟩)
   ·have c1 : w.drew.cell? ⟨b, 1, none⟩ = some (.slice (some ⟨g, 0, none⟩) 0 cap) := by
     have : w.drew.heap[b]? = some (.cells #[.pointer p, .slice (some ⟨g, 0, none⟩) 0 cap, .pointer (some ⟨d, 0, none⟩), .bool sr, .slice (some ⟨g0, 0, none⟩) n0 n0] 117 (0, 0)) := hbk
     rw [zaa this]; rfl
    have hSD : (Builtin.unsafeSliceData_ #[52] 165 #[.slice (some ⟨g, 0, none⟩) 0 cap]).run Tryz.prog w.drew = .ok (.pointer (some ⟨g, 0, none⟩)) w.drew :=
     Lib.run_unsafeSliceData_row _ _ _ _ _ _ hc0
    have hUS := hUS0 w.drew (some ⟨g, 0, none⟩)
    clear hUS0 hown hbk hl hg hcs htk hKg hKg' hc0
    go_enter Tryz.func62, Tryz.ntmps62
    go_wp2
    go_region
    all_goals (go_wp2; go_ret; exact ⟨rfl, (Kept.refl K w).drew⟩)
  ·have hn0 : l.length ≠ 0 := by simpa using h0
   have hlc : l.length <= cap := hown.2.1
   have c1 : w.drew.cell? ⟨b, 1, none⟩ = some (.slice (some ⟨g, 0, none⟩) l.length cap) := by
    have : w.drew.heap[b]? = some (.cells #[.pointer p, .slice (some ⟨g, 0, none⟩) l.length cap, .pointer (some ⟨d, 0, none⟩), .bool sr, .slice (some ⟨g0, 0, none⟩) n0 n0] 117 (0, 0)) := hbk
    rw [zaa this]; rfl
   have hSD : (Builtin.unsafeSliceData_ #[52] 165 #[.slice (some ⟨g, 0, none⟩) l.length cap]).run Tryz.prog w.drew = .ok (.pointer (some ⟨g, 0, none⟩)) w.drew :=
    Lib.run_unsafeSliceData_row _ _ _ _ _ _ (by omega)
   have hUS : (Builtin.unsafeString_ #[165, 3] 9 #[.pointer (some ⟨g, 0, none⟩), .int .i64 l.length]).run Tryz.prog w.drew = .ok (.string ⟨l.toArray⟩) (w.drew.freeze ⟨g, 0, none⟩ l.length) := by
    refine Lib.run_unsafeString_row w.drew 165 3 9 5 Tryz.underlying165 zq6 g cur.size (by have hg' : w.drew.heap[g]? = some (.cells cur 5 (0, 0)) := hg; simp [World.shape?, hg']) l h0 (by omega) (by omega) ?_
    intro j x hx
    rcases hown.cells with ⟨ha, _⟩ | ⟨g', ha, _, _, hc, _⟩
    ·cases ha
    ·injection ha with ha
     injection ha with ha
     subst ha
     have := hc j (bv x) (by simp [bvs, hx])
     rw [Addr.add_lit, Nat.zero_add]
     exact this
   have hkk : Kept K w (w.drew.freeze ⟨g, 0, none⟩ l.length) := ((Kept.refl K w).drew).freeze (p := ⟨g, 0, none⟩) hKg' _
   clear hUS0 hown hbk hl hg hcs htk hKg hKg' h0 hn0 hlc
   go_enter Tryz.func62, Tryz.ntmps62
   go_wp2
   go_region
   all_goals (go_wp2; go_ret; exact ⟨rfl, hkk⟩)
end
end Go.Proofs.YtikaheenjhdpmaaGreat
