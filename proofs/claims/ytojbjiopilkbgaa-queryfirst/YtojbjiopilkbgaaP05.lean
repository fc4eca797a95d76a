/-
 A node is taken out of its row, in memory (chain.takeOut), for the chain of gifts.; A row of nodes as a new slice of integers (chain.row).; The document grows by a node (Doc.add), its leaves, and New.; Leaves of the document that only read: room, Len, isElement, isContent, mayHold, mayMove, within, 
-/
import Derived.Test.YtojbjiopilkbgaaP03
import Derived.Test.YtojbjiopilkbgaaP04
import Derived.Great.BuildSlice
namespace Go.Proofs.Ytojbjiopilkbgaa
set_option linter.unusedVariables false
set_option maxRecDepth 100000
set_option maxHeartbeats 8000000
section
open Go.RowKit
theorem DY.gcell {K : Nat -> Prop} {w : World} {p : Nat} {S : Dm} {g : Nat} {cap : Nat} (h : DY K w p S (some ⟨g, 0, none⟩) cap) {i : Nat} (hi : i < S.n) :
  w.cell? ⟨g, i * 22 + 17, none⟩ = some (.int .i64 (S.gf i).up) /\ w.cell? ⟨g, i * 22 + 18, none⟩ = some (.int .i64 (S.gf i).prev) /\ w.cell? ⟨g, i * 22 + 19, none⟩ = some (.int .i64 (S.gf i).next) /\ w.cell? ⟨g, i * 22 + 20, none⟩ = some (.int .i64 (S.gf i).first) /\ w.cell? ⟨g, i * 22 + 21, none⟩ = some (.int .i64 (S.gf i).last) := by
 obtain ⟨aa, ac, hc, -⟩ := h.cell hi
 exact ⟨hc 17 _ rfl, hc 18 _ rfl, hc 19 _ rfl, hc 20 _ rfl, hc 21 _ rfl⟩

end
section
open Go.RowKit
abbrev iv (i : Nat) : Value := .int .i64 (i : Int)
abbrev ivs (l : List Nat) : List Value := l.map fun i => iv i
theorem infoInt : (Try.prog.info? 3).map (fun i => (i.zero, i.size, i.bytes)) = some (some (.int .i64 0), 1, 8) := by kernel_rfl
theorem appI {K : Nat -> Prop} {w : World} {ao : Option Addr} {n cap : Nat} {xs : List Value} (h : OwnZ K w 3 1 ao n cap xs) (hKl : ∀ k, K k -> k < w.heap.size) (hn : n <= 1000000000) (x : Int) :
  ∃ ao' cap' w', (Builtin.append_ #[30, 30] 30 #[.slice ao n cap, .slice (some ⟨w.heap.size, 0, none⟩) 1 1]).run Try.prog (w.alloc (.cells #[.int .i64 x] 3)) = .ok (.slice ao' (n + 1) cap') w' /\ OwnZ K w' 3 1 ao' (n + 1) cap' (xs ++ [.int .i64 x]) /\ Kept K w w' := by
 obtain ⟨i, hi, hip⟩ := Option.map_eq_some_iff.1 infoInt
 have hz : i.zero = some (.int .i64 0) := congrArg (·.1) hip
 have hsz : i.size = 1 := congrArg (·.2.1) hip
 have hby : i.bytes = 8 := congrArg (·.2.2) hip
 obtain ⟨W, hW⟩ : ∃ W, w.alloc (.cells #[.int .i64 x] 3) = W := ⟨_, rfl⟩
 rw [hW]
 have hsrc : Src Try.prog 1 30 (.slice (some ⟨w.heap.size, 0, none⟩) 1 1) 1 [.int .i64 x] W := by
  rw [<- hW]
  exact src_newZ w w.heap.size [.int .i64 x] _ Try.underlying30 (by intro u hu; rw [List.mem_singleton.1 hu]; rfl) rfl rfl
 have keep : ∀ g, g < w.heap.size -> W.heap[g]? = w.heap[g]? := fun g hg => by rw [<- hW]; exact Below.heap_alloc _ _ _ hg
 have hsW : w.heap.size <= W.heap.size := by rw [<- hW]; simp
 obtain ⟨ao', cap', w', hr, ho, hk⟩ := run_appZ (P := Try.prog) W 30 30 30 3 i _ Try.underlying30 hi hz 1 hsz rfl (by omega)
  (h.to (w' := W) (fun g hg => (h.out hg).1) (fun g hg => keep g (h.out hg).2)) _ _ hsrc (fun g hg => Nat.lt_of_lt_of_le (hKl g hg) hsW) hn
 refine ⟨ao', cap', w', hr, ho, Kept.trans ?_ hk⟩
 rw [<- hW]
 exact (Kept.refl _ w).alloc hKl _
theorem WF.len_le {n : Nat} {L : Nat -> Lk} {R : Nat -> List Nat} (h : WF n L R) {u : Nat} (hu : u < n) : (R u).length <= n := by
 have : ∀ (n : Nat) (l : List Nat), l.Nodup -> (∀ i ∈ l, i < n) -> l.length <= n := by
  intro n
  induction n with
  | zero =>
   intro l _ hl
   cases l with
   | nil => exact Nat.le_refl _
   | cons x r => exact absurd (hl x (List.mem_cons_self ..)) (Nat.not_lt_zero _)
  | succ n ih =>
   intro l hn hl
   have h1 := ih (l.erase n) (hn.erase n) (fun i hi => by
    have a := hl i (List.mem_of_mem_erase hi)
    have b : i ≠ n := fun e => by
     subst e
     exact (List.Nodup.not_mem_erase hn) hi
    omega)
   have h2 : l.length <= (l.erase n).length + 1 := by
    by_cases hm : n ∈ l
    ·rw [List.length_erase_of_mem hm]; omega
    ·rw [List.erase_of_not_mem hm]; omega
   omega
 exact this n (R u) (h.nodup u hu) (h.lt u hu)
theorem rowP (K : Nat -> Prop) (p g cap up : Nat) (S : Dm) (R : Nat -> List Nat) (w : World) (h : DY K w p S (some ⟨g, 0, none⟩) cap) (hW : WF S.n S.pl R) (hu : up < S.n) (hn : S.n <= 1000000) :
  Calls Try.prog 39 #[chP p, .int .i64 (up : Int)] w fun e w' => ∃ ao c, e = .returned (.slice ao (R up).length c) /\ OwnZ (fun k => k < w.heap.size) w' 3 1 ao (R up).length c (ivs (R up)) /\ Kept (fun k => k < w.heap.size) w w' := by
 obtain ⟨n, hne⟩ : ∃ n, S.n = n := ⟨_, rfl⟩
 have hlen := hW.len_le hu
 have hlt := hW.lt up hu
 have hf := hW.first up hu
 have hsp : ∀ a i b, R up = a ++ i :: b -> (S.pl i).next = hdD b (-1) := fun a i b e => (hW.split hu e).2
 rw [hne] at hu hn hlen hlt
 have r1 := fun (j : Nat) (hj : j < n) (X : World) (hX : X.cell? ⟨p, 1, none⟩ = some (.slice (some ⟨g, 0, none⟩) n cap)) => placeOf_any p g n cap j X hX hj (by omega)
 have ru := r1 up hu
 have c1 : w.cell? ⟨p, 1, none⟩ = some (.slice (some ⟨g, 0, none⟩) n cap) := by have := h.c1; rw [hne] at this; exact this
 obtain ⟨-, -, -, c3, -⟩ := h.pcell (i := up) (by rw [hne]; exact hu)
 rw [hf] at c3
 have HY : Hid (DY K w p S (some ⟨g, 0, none⟩) cap) := h
 have HNE : Hid (S.n = n) := hne
 have HS : Hid (∀ a i b, R up = a ++ i :: b -> (S.pl i).next = hdD b (-1)) := hsp
 have HLT : Hid (∀ i ∈ R up, i < n) := hlt
 have HL : Hid ((R up).length <= n) := hlen
 obtain ⟨Q, hQ⟩ : ∃ Q, R up = Q := ⟨_, rfl⟩
 rw [hQ] at c3 HS HLT HL ⊢
 clear h hW hne hlen hlt hf hsp hQ
 go_enter Try.func39, Try.ntmps39
 go_upto_region 3 with (go_at_call 52; refine (ru _ ?_).mono ?_; exact c1; rintro e w2 ⟨rfl, hw2⟩; replace hw2 := hw2.symm; subst hw2)
 go_loopg [5, 6] Q.length (fun gh v5 v6 wr => ∃ a b ao c, gh = b.length /\ Q = a ++ b /\ v5 = .slice ao a.length c /\ v6 = .int .i64 (hdD b (-1)) /\ OwnZ (fun k => k < w.heap.size) wr 3 1 ao a.length c (ivs a) /\ Kept (fun k => k < w.heap.size) w wr)
 case atStart => exact ⟨[], Q, none, 0, rfl, rfl, rfl, rfl, OwnZ.nil _ _ _ _, Kept.refl _ _⟩
 case round =>
  obtain ⟨a, b, ao, c, hgh, hab, rfl, rfl, hO, hK⟩ := hrel
  cases b with
  | nil =>
   have e : a = Q := by rw [hab, List.append_nil]
   subst e
   have HO : Hid (OwnZ (fun k => k < w.heap.size) wr 3 1 ao a.length c (ivs a)) := hO
   have HK : Hid (Kept (fun k => k < w.heap.size) w wr) := hK
   clear hO hK hab hgh HS HLT HL
   go_wp2
   go_ret
   exact ⟨ao, c, rfl, HO.out, HK.out⟩
  | cons i b =>
   have hin : i < n := HLT.out i (by rw [hab]; simp)
   have hal : a.length + 1 <= n := by
    have := HL.out
    rw [hab] at this
    simp at this
    omega
   obtain ⟨la, hla⟩ : ∃ z, a.length = z := ⟨_, rfl⟩
   rw [hla] at hal hO ⊢
   obtain ⟨ao', c', w', hr, hO', hK'⟩ := appI hO (fun k hk => Nat.lt_of_lt_of_le hk hK.size) (by omega) (i : Int)
   have kk := hK.trans hK'
   have hY' := HY.out.kept (hK.trans hK')
   have hnx := HS.out a i b hab
   obtain ⟨-, -, d2, -, -⟩ := hY'.pcell (i := i) (by rw [HNE.out]; exact hin)
   rw [hnx] at d2
   have d1 : w'.cell? ⟨p, 1, none⟩ = some (.slice (some ⟨g, 0, none⟩) n cap) := by have := hY'.c1; rw [HNE.out] at this; exact this
   have HO : Hid (OwnZ (fun k => k < w.heap.size) w' 3 1 ao' (la + 1) c' (ivs a ++ [.int .i64 (i : Int)])) := hO'
   have HK : Hid (Kept (fun k => k < w.heap.size) w w') := kk
   have HAB : Hid (Q = a ++ i :: b) := hab
   have HLA : Hid (a.length = la) := hla
   have hi0 : ((i : Int) == -1) = false := by simp
   have ri := r1 i hin
   rw [show hdD (i :: b) (-1) = (i : Int) from rfl]
   clear hO hO' hK hK' hY' hnx kk hab hla
   go_wp2_with (first | (at_builtin; refine wpList_appR (w' := w') rfl (.tmp 21) (.tmp 23) 30 30 rfl _ _ (.slice ao' (la + 1) c') rfl rfl hr ?_) | (go_at_call 52; refine (ri _ ?_).mono ?_; exact d1; rintro e w2 ⟨rfl, hw2⟩; replace hw2 := hw2.symm; subst hw2))
   go_roundg b.length
   case rel =>
    refine ⟨a ++ [i], b, ao', c', rfl, by rw [HAB.out]; simp, by rw [List.length_append, HLA.out]; rfl, rfl, ?_, HK.out⟩
    rw [List.length_append, HLA.out, ivs, List.map_append]
    exact HO.out
   case measure => rw [hgh]; simp

end
section
open Go.RowKit
section
variable {P : Program}
theorem run_appW {K : Nat -> Prop} (w : World) (t tx ty e : TypeId) (i : TypeInfo) (zv : Value) (ht : P.underlying t = some (.slice e)) (hi : P.info? e = some i) (hz : i.zero = some zv) (z : Nat) (hsize : i.size = z) (hzs : zv.cells.size = z) (hby : i.bytes <= 1024)
  {ao : Option Addr} {n cap : Nat} {xs : List Value} (hown : OwnZ K w e z ao n cap xs) (x : Value) (news : List Value) (hs : Src P z tx x 1 news w)
  (hK : ∀ k, K k -> k < w.heap.size) (hn : n <= 1000000000) :
  ∃ ao' cap' w', (Builtin.append_ #[t, tx] ty #[.slice ao n cap, x]).run P w = .ok (.slice ao' (n + 1) cap') w' /\ OwnZ K w' e z ao' (n + 1) cap' (xs ++ news) /\ Kept K w w' := by
 subst hsize
 have h63 : n + 1 <= maxLen := by unfold maxLen; omega
 have hbytes : (n + 1) * i.bytes <= 140737488355328 := by
  have : (n + 1) * i.bytes <= (1000000000 + 1) * 1024 := Nat.mul_le_mul (by omega) hby
  omega
 have hnl : news.length = i.size := by simpa using hs.newsLen
 obtain ⟨h1, h2, h3, h4⟩ := hown
 have grow : cap < n + 1 -> (Builtin.firstCells i.size n (.slice ao n cap)).run P w.drew = .ok xs.toArray w.drew ->
   ∃ ao' cap' w', (Builtin.append_ #[t, tx] ty #[.slice ao n cap, x]).run P w = .ok (.slice ao' (n + 1) cap') w' /\ OwnZ K w' e i.size ao' (n + 1) cap' (xs ++ news) /\ Kept K w w' := by
  intro hg hold
  have hr := run_append_grow_src (P := P) w t tx ty e i zv ht hi hz ao n cap xs hold x 1 news hs hg (by omega) (growslice_fits hg hbytes)
  have hge := grownCap_ge w (n + 1) cap e
  have hlen : (xs ++ news).length = (n + 1) * i.size := by rw [List.length_append, h1, hnl, Nat.succ_mul]
  refine ⟨_, _, _, hr, ⟨hlen, hge, grownCap_le_maxLen w (n + 1) cap e h63, .inr ⟨w.heap.size, _, rfl, fun hk => Nat.lt_irrefl _ (hK _ hk), heap_alloc_new w.drew _, ?_, ?_⟩⟩, (Kept.refl K w).drew.alloc (by simpa using hK) _⟩
  ·rw [Array.size_append, List.size_toArray, hlen, size_zeroCells, hzs, <- Nat.add_mul]
   congr 1
   omega
  ·rw [Array.toList_append]
   rw [<- hlen]
   exact List.take_left
 rcases h4 with ⟨rfl, rfl⟩ | ⟨g, cur, rfl, r2, r3, r4, r5⟩
 ·have hn0 : n = 0 := by omega
  subst hn0
  have hx : xs = [] := List.eq_nil_of_length_eq_zero (by omega)
  subst hx
  exact grow (by omega) (run_firstCells_none w.drew i.size 0 0 0)
 ·have hcells : ∀ j u, xs[j]? = some u -> w.cell? ((⟨g, 0, none⟩ : Addr).add j) = some u := by
   intro j u hj
   have hjl : j < xs.length := by
    rcases Nat.lt_or_ge j xs.length with hl | hg
    ·exact hl
    ·rw [List.getElem?_eq_none hg] at hj; cases hj
   have : (⟨g, 0, none⟩ : Addr).add j = ⟨g, j, none⟩ := by rw [Addr.add_lit, Nat.zero_add]
   rw [this, cell_block r3, <- hj, <- r5, List.getElem?_take, if_pos (by omega), Array.getElem?_toList]
  by_cases hroom : n + 1 <= cap
  ·have hfit : n * i.size + i.size <= cur.size := by
    rw [r4, <- Nat.succ_mul]
    exact Nat.mul_le_mul_right _ hroom
   have hr := run_append_room_src (P := P) w t tx ty e i ht hi g 0 n cap x 1 news hs hroom
    (fun j hj => by rw [cell_block r3]; rw [Array.getElem?_eq_getElem (by omega)]; rfl)
    (fun j hj => frozen_block r3 _)
   rw [Nat.zero_add] at hr
   obtain ⟨c', q1, q2⟩ := heap_setCells_at (b := g) (e := e) (f := (0, 0)) news (n * i.size) w cur r3 (by omega)
   have hlen : (xs ++ news).length = (n + 1) * i.size := by rw [List.length_append, h1, hnl, Nat.succ_mul]
   refine ⟨_, _, _, hr, ⟨hlen, hroom, h3, .inr ⟨g, c', rfl, r2, q1, ?_, ?_⟩⟩, ⟨?_, ?_, ?_, ?_, ?_⟩⟩
   ·have := congrArg List.length q2
    rw [List.length_append, List.length_append, List.length_drop, List.length_take] at this
    simp only [Array.length_toList] at this
    omega
   ·rw [q2, r5, <- hlen]
    exact List.take_left
   ·exact World.os_setCells w g _ news
   ·have key : ∀ (vs : List Value) (o : Nat) (v : World), (v.setCells g o vs).tape = v.tape := by
     intro vs
     induction vs with
     | nil => intro o v; rfl
     | cons a r ih => intro o v; rw [World.setCells, ih]; rfl
    exact key news _ w
   ·exact World.output_setCells w g _ news
   ·have key : ∀ (vs : List Value) (o : Nat) (v : World), (v.setCells g o vs).heap.size = v.heap.size := by
     intro vs
     induction vs with
     | nil => intro o v; rfl
     | cons a r ih => intro o v; rw [World.setCells, ih]; simp
    rw [key]; exact Nat.le_refl _
   ·intro k hk
    exact World.heap_setCells_other w g _ news (hK k hk) (fun e => r2 (e ▸ hk))
  ·exact grow (by omega) (run_firstCells_some w.drew i.size n ⟨g, 0, none⟩ n cap xs h1 hcells)
theorem step_appR {w w' : World} {ops : Array Oper} {o : Oper} {a : Act} {Kn : Act -> World -> Prop} {Q : Exit -> Act -> World -> Prop} {E : Prop} (hgd : o.guard = none) (s x : Operand) (t tx : TypeId)
  (ho : o.op = .call { callee := .builtin .append, args := #[s, x], argTypes := #[t, tx] }) (vs vx v : Value) (hs : a.eval s = vs) (hx : a.eval x = vx)
  (hr : (Builtin.append_ #[t, tx] o.type #[vs, vx]).run P w = .ok v w') (h : Kn (a.put o.dst v) w') : if Region.wanted o (yielded ops a.tmps) = true then Oper.wp P o a w Kn Q else E := by
 have hw : Region.wanted o (yielded ops a.tmps) = true := by simp [Region.wanted, hgd]
 rw [if_pos hw]
 unfold Oper.wp execOp
 simp only [ho, resolve, invoke, builtin, Sem.run_bind, Sem.run_pure, Result.andThen_ok, List.map_toArray, List.map_cons, List.map_nil, hs, hx, hr]
 exact h
end
theorem infoN : (Try.prog.info? 55).map (fun i => (i.zero, i.size, i.bytes)) = some (some (.agg #[.int .u8 0, .string ⟨#[]⟩, .string ⟨#[]⟩, .slice none 0 0, .bool false, .bool false, .bool false, .bool false, .bool false, .int .i64 0, .int .i64 0, .int .i64 0, .int .i64 0, .int .i64 0, .int .i64 0, .int .i64 0, .int .i64 0, .int .i64 0, .int .i64 0, .int .i64 0, .int .i64 0, .int .i64 0]), 22, 176) := by kernel_rfl
theorem size_le (cs : Array Value) (h : cs.size = 22) : ∃ v0 v1 v2 v3 v4 v5 v6 v7 v8 v9 v10 v11 v12 v13 v14 v15 v16 v17 v18 v19 v20 v21, cs = #[v0, v1, v2, v3, v4, v5, v6, v7, v8, v9, v10, v11, v12, v13, v14, v15, v16, v17, v18, v19, v20, v21] := by
 obtain ⟨l⟩ := cs
 have h : l.length = 22 := h
 match l, h with
 | [v0, v1, v2, v3, v4, v5, v6, v7, v8, v9, v10, v11, v12, v13, v14, v15, v16, v17, v18, v19, v20, v21], _ => exact ⟨_, _, _, _, _, _, _, _, _, _, _, _, _, _, _, _, _, _, _, _, _, _, rfl⟩
theorem fill22 (z : Array Value) (hz : z.size = 22) (v0 v1 v2 v3 v4 v5 v6 v7 v8 v9 v10 v11 v12 v13 v14 v15 v16 v17 v18 v19 v20 v21 : Value) : Instr.fill (fun i => some (i * 22, 22)) z [(0, .agg #[v0, v1, v2, v3, v4, v5, v6, v7, v8, v9, v10, v11, v12, v13, v14, v15, v16, v17, v18, v19, v20, v21])] = some #[v0, v1, v2, v3, v4, v5, v6, v7, v8, v9, v10, v11, v12, v13, v14, v15, v16, v17, v18, v19, v20, v21] := by
 obtain ⟨z0, z1, z2, z3, z4, z5, z6, z7, z8, z9, z10, z11, z12, z13, z14, z15, z16, z17, z18, z19, z20, z21, rfl⟩ := size_le z hz
 kernel_rfl
theorem fill22' (z cs : Array Value) (hz : z.size = 22) (hc : cs.size = 22) : Instr.fill (fun i => some (i * 22, 22)) z [(0, .agg cs)] = some cs := by
 obtain ⟨v0, v1, v2, v3, v4, v5, v6, v7, v8, v9, v10, v11, v12, v13, v14, v15, v16, v17, v18, v19, v20, v21, rfl⟩ := size_le cs hc
 exact fill22 z hz _ _ _ _ _ _ _ _ _ _ _ _ _ _ _ _ _ _ _ _ _ _
theorem step_load22 {ops : Array Oper} {o : Oper} {a : Act} {w : World} {Kn : Act -> World -> Prop} {Q : Exit -> Act -> World -> Prop} {E : Prop} (hgd : o.guard = none) (x : Operand) (ho : o.op = .load 55 x)
  (g : Nat) (hx : a.eval x = .pointer (some ⟨g, 0, none⟩)) (cs : Array Value) (hg : w.heap[g]? = some (.cells cs 55)) (hc : cs.size = 22) (h : Kn (a.put o.dst (.agg cs)) w) : if Region.wanted o (yielded ops a.tmps) = true then Oper.wp Try.prog o a w Kn Q else E := by
 have hw : Region.wanted o (yielded ops a.tmps) = true := by simp [Region.wanted, hgd]
 rw [if_pos hw]
 obtain ⟨inf, hi, hip⟩ := Option.map_eq_some_iff.1 infoN
 exact wp_load_row 55 x ho g hx 55 cs _ _ hg Try.underlying55 rfl (by rw [hi, hc]; exact congrArg some (congrArg (·.2.1) hip)) h
theorem step_slice22 {ops : Array Oper} {o : Oper} {a : Act} {w : World} {Kn : Act -> World -> Prop} {Q : Exit -> Act -> World -> Prop} {E : Prop} (hgd : o.guard = none) (x : Operand) (ho : o.op = .buildSlice 47 1 #[(0, x)])
  (cs : Array Value) (hx : a.eval x = .agg cs) (hc : cs.size = 22) (h : Kn (a.put o.dst (.slice (some ⟨w.heap.size, 0, none⟩) 1 1)) (w.alloc (.cells cs 55))) : if Region.wanted o (yielded ops a.tmps) = true then Oper.wp Try.prog o a w Kn Q else E := by
 have hw : Region.wanted o (yielded ops a.tmps) = true := by simp [Region.wanted, hgd]
 rw [if_pos hw]
 obtain ⟨inf, hi, hip⟩ := Option.map_eq_some_iff.1 infoN
 have hz0 : inf.zero = _ := congrArg (·.1) hip
 have hsz : inf.size = 22 := congrArg (·.2.1) hip
 refine wp_buildSlice 47 55 1 #[(0, x)] ho cs inf _ Try.underlying47 hi hz0 (by rw [hsz]; decide) (by rw [hsz]; decide) ?_ h
 rw [hsz]
 have e : ((#[(0, x)] : Array (Nat × Operand)).map fun (i, x) => (i, a.eval x)).toList = [(0, .agg cs)] := by
  simp [hx]
 rw [e]
 exact fill22' _ _ (by simp) hc
def Nd.new (x : Nd) : Nd := { x with shadow := -1, host := -1, content := -1 }
def Dm.add (S : Dm) (x : Nd) : Dm := { S with n := S.n + 1, nd := fun k => if k = S.n then x.new else S.nd k, pl := updL S.pl S.n Lk.nil, gf := updL S.gf S.n Lk.nil }
def newCells (x : Nd) (aa : Option Addr) (ac : Nat) : List Value := ndCells x.new Lk.nil Lk.nil aa ac
theorem add_old (S : Dm) (x : Nd) {i : Nat} (h : i < S.n) (aa : Option Addr) (ac : Nat) : (S.add x).cells i aa ac = S.cells i aa ac := by
 have c : ¬ i = S.n := by omega
 simp only [Dm.cells, Dm.add, updL, if_neg c]
theorem add_new (S : Dm) (x : Nd) (aa : Option Addr) (ac : Nat) : (S.add x).cells S.n aa ac = newCells x aa ac := by
 simp only [Dm.cells, Dm.add, updL, if_pos, newCells]
theorem DY.app {K : Nat -> Prop} {w0 w : World} {p : Nat} {S : Dm} {ga : Option Addr} {cap : Nat} (h : DY K w0 p S ga cap) (hk : Kept (fun k => k < w0.heap.size) w0 w) (hn : S.n <= 1000000) (x : Nd) (aa : Option Addr) (ac : Nat)
  (ha : OwnZ (fun k => k < w0.heap.size) w 39 2 aa x.attrs.length ac (atrCells x.attrs)) :
  ∃ ga' cap' w', (Builtin.append_ #[47, 47] 47 #[.slice ga S.n cap, .slice (some ⟨w.heap.size, 0, none⟩) 1 1]).run Try.prog (w.alloc (.cells (newCells x aa ac).toArray 55)) = .ok (.slice ga' (S.n + 1) cap') w' /\
   w'.cell? ⟨p, 1, none⟩ = some (.slice ga S.n cap) /\ w'.frozen? ⟨p, 1, none⟩ = false /\ DY K (w'.setCell ⟨p, 1, none⟩ (.slice ga' (S.n + 1) cap')) p (S.add x) ga' cap' /\ Kept K w0 (w'.setCell ⟨p, 1, none⟩ (.slice ga' (S.n + 1) cap')) := by
 obtain ⟨h1, h2, h3, xs, aas, acs, ho, hx, hat, hs⟩ := h
 have hp0 := lt_block h3
 obtain ⟨inf, hi, hip⟩ := Option.map_eq_some_iff.1 infoN
 have hz0 : inf.zero = _ := congrArg (·.1) hip
 have hsz : inf.size = 22 := congrArg (·.2.1) hip
 have hby : inf.bytes = 176 := congrArg (·.2.2) hip
 obtain ⟨W, hW⟩ : ∃ W, w.alloc (.cells (newCells x aa ac).toArray 55) = W := ⟨_, rfl⟩
 rw [hW]
 have hsrc : Src Try.prog 22 47 (.slice (some ⟨w.heap.size, 0, none⟩) 1 1) 1 (newCells x aa ac) W := by
  rw [<- hW]
  exact src_newZ w w.heap.size (newCells x aa ac) _ Try.underlying47 (nd_one _ _ _ _ _) rfl rfl
 have kW : Kept (fun k => k < w.heap.size) w W := by rw [<- hW]; exact (Kept.refl _ w).alloc (fun _ h => h) _
 have k0W : Kept (fun k => k < w0.heap.size) w0 W := hk.trans (kW.mono fun k h => Nat.lt_of_lt_of_le h hk.size)
 have hoW : OwnZ (fun k => k < W.heap.size /\ ¬ blkOf ga k) W 55 22 ga S.n cap xs := OwnZ.to ho (fun g hg hh => hh.2 hg) (fun g hg => k0W.block g (ho.out hg).2)
 obtain ⟨ga', cap', w', hrun, ho', hk'⟩ := run_appW (P := Try.prog) W 47 47 47 55 inf _ Try.underlying47 hi hz0 22 hsz rfl (by omega) hoW _ _ hsrc (fun k hk => hk.1) (by omega)
 have hpg : ¬ blkOf ga p := fun hb => (ho.out hb).1 (.inr rfl)
 have hpW : p < W.heap.size := Nat.lt_of_lt_of_le hp0 k0W.size
 have hb' : w'.heap[p]? = some (.cells #[.int .i64 (S.limit : Int), .slice ga S.n cap] 49 (0, 0)) := by rw [hk'.block p ⟨hpW, hpg⟩, k0W.block p hp0]; exact h3
 have hnew : ∀ g, blkOf ga' g -> blkOf ga g \/ W.heap.size <= g := fun g hg => by
  have := (OwnZ.out ho' hg).1
  by_cases hb : blkOf ga g
  ·exact .inl hb
  ·exact .inr (Nat.le_of_not_lt fun hl => this ⟨hl, hb⟩)
 have hpg' : ¬ blkOf ga' p := fun hb => by
  rcases hnew p hb with hh | hh
  ·exact hpg hh
  ·omega
 have kS : ∀ k, k < W.heap.size -> ¬ blkOf ga k -> k ≠ p -> (w'.setCell ⟨p, 1, none⟩ (.slice ga' (S.n + 1) cap')).heap[k]? = W.heap[k]? := fun k hl hg hp => by
  rw [Below.heap_setCell _ _ _ _ (fun e => hp e)]
  exact hk'.block k ⟨hl, hg⟩
 have kK : Kept K w0 (w'.setCell ⟨p, 1, none⟩ (.slice ga' (S.n + 1) cap')) := by
  refine ((k0W.mono h1).trans (hk'.mono fun k hK => ⟨Nat.lt_of_lt_of_le (h1 k hK) k0W.size, fun hb => (ho.out hb).1 (.inl hK)⟩)).setCell (p := ⟨p, 1, none⟩) h2 _
 refine ⟨ga', cap', w', hrun, by rw [cell_block hb']; rfl, frozen_block hb' _, ⟨fun k hK => Nat.lt_of_lt_of_le (h1 k hK) kK.size, h2, ?_, xs ++ newCells x aa ac, fun k => if k = S.n then aa else aas k, fun k => if k = S.n then ac else acs k, ?_, ?_, ?_, ?_⟩, kK⟩
 ·rw [heap_setCell_at hb']; rfl
 ·refine OwnZ.to ho' (fun g hg hh => ?_) (fun g hg => ?_)
  ·rcases hh with hh | hh
   ·rcases hnew g hg with hq | hq
    ·exact (ho.out hq).1 (.inl hh)
    ·have := h1 g hh
     have := k0W.size
     omega
   ·subst hh; exact hpg' hg
  ·exact Below.heap_setCell _ _ _ _ (fun e => hpg' (by have e : g = p := e; rw [<- e]; exact hg))
 ·intro i hi f u hu
  dsimp only at hu
  have hlx : xs.length = S.n * 22 := ho.1
  by_cases c : i = S.n
  ·subst c
   rw [if_pos rfl, if_pos rfl, add_new] at hu
   rw [List.getElem?_append_right (by omega), hlx, show S.n * 22 + f - S.n * 22 = f from by omega]
   exact hu
  ·have hiS : i < S.n := by have : i < S.n + 1 := hi; omega
   rw [if_neg c, if_neg c, add_old S x hiS] at hu
   have := hx i hiS f u hu
   rw [List.getElem?_append_left]
   ·exact this
   ·rcases Nat.lt_or_ge (i * 22 + f) xs.length with hl | hg
    ·exact hl
    ·rw [List.getElem?_eq_none hg] at this; cases this
 ·intro i hi
  dsimp only
  by_cases c : i = S.n
  ·subst c
   rw [if_pos rfl, if_pos rfl]
   have e : ((S.add x).nd S.n).attrs = x.attrs := by simp [Dm.add, Nd.new]
   rw [e]
   have hout := fun g (hg : blkOf aa g) => OwnZ.out ha hg
   refine OwnZ.to ha (fun g hg hh => ?_) (fun g hg => ?_)
   ·have h0 := (hout g hg).1
    have h00 := (hout g hg).2
    rcases hh with hh | hh | hh
    ·exact h0 (h1 g hh)
    ·subst hh; exact h0 hp0
    ·rcases hnew g hh with hq | hq
     ·exact h0 (ho.out hq).2
     ·have := kW.size; omega
   ·have h0 := (hout g hg).1
    have h00 := (hout g hg).2
    rw [kS g (Nat.lt_of_lt_of_le h00 kW.size) (fun hb => h0 (ho.out hb).2) (fun e => h0 (e ▸ hp0)), kW.block g h00]
  ·have hiS : i < S.n := by have : i < S.n + 1 := hi; omega
   rw [if_neg c, if_neg c]
   have e : ((S.add x).nd i).attrs = (S.nd i).attrs := by simp [Dm.add, c]
   rw [e]
   have hout := fun g (hg : blkOf (aas i) g) => OwnZ.out (hat i hiS) hg
   refine OwnZ.to (hat i hiS) (fun g hg hh => ?_) (fun g hg => ?_)
   ·have h0 := (hout g hg).1
    have h00 := (hout g hg).2
    rcases hh with hh | hh | hh
    ·exact h0 (.inl hh)
    ·exact h0 (.inr (.inl hh))
    ·rcases hnew g hh with hq | hq
     ·exact h0 (.inr (.inr hq))
     ·have := k0W.size; omega
   ·have h0 := (hout g hg).1
    have h00 := (hout g hg).2
    rw [kS g (Nat.lt_of_lt_of_le h00 k0W.size) (fun hb => h0 (.inr (.inr hb))) (fun e => h0 (.inr (.inl e))), k0W.block g h00]
 ·intro i j hi hj hij g hg hh
  dsimp only at hg hh
  have cases' : ∀ i, i < (S.add x).n -> i = S.n \/ (i < S.n /\ i ≠ S.n) := fun i hi => by have : i < S.n + 1 := hi; omega
  rcases cases' i hi with rfl | ⟨h1', h2'⟩
  ·rcases cases' j hj with rfl | ⟨h3', h4'⟩
   ·exact hij rfl
   ·rw [if_pos rfl] at hg
    rw [if_neg h4'] at hh
    exact (OwnZ.out ha hg).1 (OwnZ.out (hat j h3') hh).2
  ·rcases cases' j hj with rfl | ⟨h3', h4'⟩
   ·rw [if_neg h2'] at hg
    rw [if_pos rfl] at hh
    exact (OwnZ.out ha hh).1 (OwnZ.out (hat i h1') hg).2
   ·rw [if_neg h2'] at hg
    rw [if_neg h4'] at hh
    exact hs i j h1' h3' hij g hg hh
theorem unlinked_any (w : World) : Calls Try.prog 33 #[] w fun e w' => e = .returned (.agg #[.int .i64 (-1), .int .i64 (-1), .int .i64 (-1), .int .i64 (-1), .int .i64 (-1)]) /\ w' = w.alloc (.cells #[.int .i64 (-1), .int .i64 (-1), .int .i64 (-1), .int .i64 (-1), .int .i64 (-1)] 53) := by
 go_enter Try.func33, Try.ntmps33
 go_wp2
 exact bodyPost_ret (v := .agg #[.int .i64 (-1), .int .i64 (-1), .int .i64 (-1), .int .i64 (-1), .int .i64 (-1)]) (by simp [results, Try.results33, go_sem]) rfl ⟨rfl, rfl⟩
abbrev ndV (x : Nd) (p q : Lk) (aa : Option Addr) (ac : Nat) : Value := .agg (ndCells x p q aa ac).toArray
theorem add_any (K : Nat -> Prop) (p : Nat) (S : Dm) (ga : Option Addr) (cap : Nat) (w0 w : World) (h : DY K w0 p S ga cap) (hk : Kept (fun k => k < w0.heap.size) w0 w) (hn : S.n <= 1000000) (x : Nd) (l q : Lk) (aa : Option Addr) (ac : Nat)
  (ha : OwnZ (fun k => k < w0.heap.size) w 39 2 aa x.attrs.length ac (atrCells x.attrs)) :
  Calls Try.prog 15 #[.pointer (some ⟨p, 0, none⟩), ndV x l q aa ac] w fun e w' => e = .returned (.int .i64 (S.n : Int)) /\ DX K w' p (S.add x) /\ Kept K w0 w' := by
 obtain ⟨m, hm⟩ : ∃ m, x.attrs.length = m := ⟨_, rfl⟩
 have e0 : ndV x l q aa ac = .agg #[.int .u8 (x.kind : Int), sv x.name, sv x.data, .slice aa m ac, .bool x.fl.a, .bool x.fl.b, .bool x.fl.c, .bool x.fl.d, .bool x.fl.e, .int .i64 x.shadow, .int .i64 x.host, .int .i64 x.content,
  .int .i64 l.up, .int .i64 l.prev, .int .i64 l.next, .int .i64 l.first, .int .i64 l.last, .int .i64 q.up, .int .i64 q.prev, .int .i64 q.next, .int .i64 q.first, .int .i64 q.last] := by rw [<- hm]; rfl
 rw [e0]
 clear e0
 obtain ⟨W, hW⟩ : ∃ W, (((w.alloc (.cells #[.int .u8 (x.kind : Int), sv x.name, sv x.data, .slice aa m ac, .bool x.fl.a, .bool x.fl.b, .bool x.fl.c, .bool x.fl.d, .bool x.fl.e, .int .i64 (-1), .int .i64 (-1), .int .i64 (-1), .int .i64 (-1), .int .i64 (-1), .int .i64 (-1), .int .i64 (-1), .int .i64 (-1), .int .i64 (-1), .int .i64 (-1), .int .i64 (-1), .int .i64 (-1), .int .i64 (-1)] 55)).alloc (.cells #[.int .i64 (-1), .int .i64 (-1), .int .i64 (-1), .int .i64 (-1), .int .i64 (-1)] 53)).alloc (.cells #[.int .i64 (-1), .int .i64 (-1), .int .i64 (-1), .int .i64 (-1), .int .i64 (-1)] 53)) = W := ⟨_, rfl⟩
 have kW : Kept (fun k => k < w.heap.size) w W := by
  rw [<- hW]
  exact (((Kept.refl _ w).alloc (fun _ h => h) _).alloc (fun k h => by simp; omega) _).alloc (fun k h => by simp; omega) _
 have hkW : Kept (fun k => k < w0.heap.size) w0 W.drew := (hk.trans (kW.mono fun k h => Nat.lt_of_lt_of_le h hk.size)).drew
 have haW : OwnZ (fun k => k < w0.heap.size) W.drew 39 2 aa x.attrs.length ac (atrCells x.attrs) := OwnZ.to ha (fun g hg => (OwnZ.out ha hg).1) (fun g hg => kW.block g (OwnZ.out ha hg).2)
 obtain ⟨ga', cap', w', hr, d1, f1, hY, hK⟩ := h.app hkW hn x aa ac haW
 have c1 : W.drew.cell? ⟨p, 1, none⟩ = some (.slice ga S.n cap) := (hkW.cell (p := ⟨p, 1, none⟩) h.plt).trans h.c1
 have ecells : (newCells x aa ac).toArray = #[.int .u8 (x.kind : Int), sv x.name, sv x.data, .slice aa m ac, .bool x.fl.a, .bool x.fl.b, .bool x.fl.c, .bool x.fl.d, .bool x.fl.e, .int .i64 (-1), .int .i64 (-1), .int .i64 (-1), .int .i64 (-1), .int .i64 (-1), .int .i64 (-1), .int .i64 (-1), .int .i64 (-1), .int .i64 (-1), .int .i64 (-1), .int .i64 (-1), .int .i64 (-1), .int .i64 (-1)] := by
  rw [<- hm]; rfl
 rw [ecells] at hr
 obtain ⟨N, hN⟩ : ∃ N, w.heap.size = N := ⟨_, rfl⟩
 obtain ⟨n, hne⟩ : ∃ n, S.n = n := ⟨_, rfl⟩
 rw [hne] at hn hr d1 c1 hY hK ⊢
 have hcs : W.heap[N]? = some (.cells #[.int .u8 (x.kind : Int), sv x.name, sv x.data, .slice aa m ac, .bool x.fl.a, .bool x.fl.b, .bool x.fl.c, .bool x.fl.d, .bool x.fl.e, .int .i64 (-1), .int .i64 (-1), .int .i64 (-1), .int .i64 (-1), .int .i64 (-1), .int .i64 (-1), .int .i64 (-1), .int .i64 (-1), .int .i64 (-1), .int .i64 (-1), .int .i64 (-1), .int .i64 (-1), .int .i64 (-1)] 55) := by
  rw [<- hW, <- hN]
  exact heap_alloc_past (heap_alloc_past (heap_alloc_new w _) _) _
 have c1b : (W.alloc (.cells #[.int .u8 (x.kind : Int), sv x.name, sv x.data, .slice aa m ac, .bool x.fl.a, .bool x.fl.b, .bool x.fl.c, .bool x.fl.d, .bool x.fl.e, .int .i64 (-1), .int .i64 (-1), .int .i64 (-1), .int .i64 (-1), .int .i64 (-1), .int .i64 (-1), .int .i64 (-1), .int .i64 (-1), .int .i64 (-1), .int .i64 (-1), .int .i64 (-1), .int .i64 (-1), .int .i64 (-1)] 55)).drew.cell? ⟨p, 1, none⟩ = some (.slice ga n cap) := by
  show (W.alloc _).cell? _ = _
  rw [Kept.cell ((Kept.refl (fun k => k < W.heap.size) W).alloc (fun _ h => h) _) (p := ⟨p, 1, none⟩) (Nat.lt_of_lt_of_le h.plt hkW.size)]
  exact c1
 have c1c : (W.alloc (.cells #[.int .u8 (x.kind : Int), sv x.name, sv x.data, .slice aa m ac, .bool x.fl.a, .bool x.fl.b, .bool x.fl.c, .bool x.fl.d, .bool x.fl.e, .int .i64 (-1), .int .i64 (-1), .int .i64 (-1), .int .i64 (-1), .int .i64 (-1), .int .i64 (-1), .int .i64 (-1), .int .i64 (-1), .int .i64 (-1), .int .i64 (-1), .int .i64 (-1), .int .i64 (-1), .int .i64 (-1)] 55)).cell? ⟨p, 1, none⟩ = some (.slice ga n cap) := c1b
 obtain ⟨cs, hcsE⟩ : ∃ cs : Array Value, #[.int .u8 (x.kind : Int), sv x.name, sv x.data, .slice aa m ac, .bool x.fl.a, .bool x.fl.b, .bool x.fl.c, .bool x.fl.d, .bool x.fl.e, .int .i64 (-1), .int .i64 (-1), .int .i64 (-1), .int .i64 (-1), .int .i64 (-1), .int .i64 (-1), .int .i64 (-1), .int .i64 (-1), .int .i64 (-1), .int .i64 (-1), .int .i64 (-1), .int .i64 (-1), .int .i64 (-1)] = cs := ⟨_, rfl⟩
 rw [hcsE] at hcs hr c1b c1c
 have hcsz : cs.size = 22 := by rw [<- hcsE]; rfl
 have HC : Hid (W.heap[N]? = some (.cells cs 55)) := hcs
 have HW : Hid ((((w.alloc (.cells #[.int .u8 (x.kind : Int), sv x.name, sv x.data, .slice aa m ac, .bool x.fl.a, .bool x.fl.b, .bool x.fl.c, .bool x.fl.d, .bool x.fl.e, .int .i64 (-1), .int .i64 (-1), .int .i64 (-1), .int .i64 (-1), .int .i64 (-1), .int .i64 (-1), .int .i64 (-1), .int .i64 (-1), .int .i64 (-1), .int .i64 (-1), .int .i64 (-1), .int .i64 (-1), .int .i64 (-1)] 55)).alloc (.cells #[.int .i64 (-1), .int .i64 (-1), .int .i64 (-1), .int .i64 (-1), .int .i64 (-1)] 53)).alloc (.cells #[.int .i64 (-1), .int .i64 (-1), .int .i64 (-1), .int .i64 (-1), .int .i64 (-1)] 53)) = W) := hW
 have HN : Hid (w.heap.size = N) := hN
 have HY : Hid (DX K (w'.setCell ⟨p, 1, none⟩ (.slice ga' (n + 1) cap')) p (S.add x)) := ⟨ga', cap', hY⟩
 have HK : Hid (Kept K w0 (w'.setCell ⟨p, 1, none⟩ (.slice ga' (n + 1) cap'))) := hK
 clear hY hK hW hN ha hk h kW hkW haW ecells hm hne hcs hcsE
 go_enter Try.func15, Try.ntmps15
 go_upto_region 3 with (go_at_call 33; refine (unlinked_any _).mono ?_; rintro e w2 ⟨rfl, rfl⟩)
 rw [HW.out, HN.out]
 clear HW HN
 refine wp_region_any (by kernel_rfl) ?_
 change wpAny _ _ _ _ _ _ _ (World.drew _)
 refine wpAny_take (i := 0) (v := .pointer (some ⟨p, 0, none⟩)) rfl (by kernel_rfl) (by kernel_rfl) (by kernel_rfl) (fun _ _ _ h => h) (Or.inl ⟨by rfl, by intro w; go_simp; try with_reducible rfl⟩) ?_
 refine wpAny_take (i := 1) (v := .pointer (some ⟨p, 0, none⟩)) rfl (by kernel_rfl) (by kernel_rfl) (by kernel_rfl) (fun _ _ _ h => h) (Or.inl ⟨by rfl, by intro w; go_simp; try with_reducible rfl⟩) ?_
 refine wpAny_take (i := 2) (v := .pointer (some ⟨p, 0, none⟩)) rfl (by kernel_rfl) (by kernel_rfl) (by kernel_rfl) (fun _ _ _ h => h) (Or.inl ⟨by rfl, by intro w; go_simp; try with_reducible rfl⟩) ?_
 refine wpAny_take (i := 3) (v := .pointer (some ⟨p, 1, none⟩)) rfl (by kernel_rfl) (by kernel_rfl) (by kernel_rfl) (fun _ _ _ h => h) (Or.inl ⟨by rfl, by intro w; go_simp; try with_reducible rfl⟩) ?_
 refine wpAny_ready (rs := [4, 5]) (by kernel_rfl) (by simp) ?_
 refine AllReady.cons rfl (fun K hK => ?_) (AllReady.cons rfl (fun K hK => ?_) AllReady.nil)
 ·go_simp
  refine hK _ _ ?_
  clear hK K
  refine wpAny_ready (rs := [5]) (by kernel_rfl) (by simp) ?_
  refine AllReady.cons rfl (fun K hK => ?_) AllReady.nil
  refine step_load22 rfl (.tmp 3) rfl N rfl cs HC.out hcsz ?_
  refine hK _ _ ?_
  clear hK K
  refine wpAny_ready (rs := [6]) (by kernel_rfl) (by simp) ?_
  refine AllReady.cons rfl (fun K hK => ?_) AllReady.nil
  refine step_slice22 rfl (.tmp 17) rfl cs rfl hcsz ?_
  refine hK _ _ ?_
  clear hK K
  refine wpAny_ready (rs := [7]) (by kernel_rfl) (by simp) ?_
  refine AllReady.cons rfl (fun K hK => ?_) AllReady.nil
  refine step_appR (w' := w') rfl (.tmp 16) (.tmp 18) 47 47 rfl _ _ (.slice ga' (n + 1) cap') rfl rfl hr ?_
  refine hK _ _ ?_
  clear hK K
  refine wpAny_take (i := 8) (v := .pointer (some ⟨p, 0, none⟩)) rfl (by kernel_rfl) (by kernel_rfl) (by kernel_rfl) (fun _ _ _ h => h) (Or.inl ⟨by rfl, by intro w; go_simp; try with_reducible rfl⟩) ?_
  refine wpAny_take (i := 9) (v := .pointer (some ⟨p, 1, none⟩)) rfl (by kernel_rfl) (by kernel_rfl) (by kernel_rfl) (fun _ _ _ h => h) (Or.inl ⟨by rfl, by intro w; go_simp; try with_reducible rfl⟩) ?_
  refine wpAny_ready (rs := [10]) (by kernel_rfl) (by simp) ?_
  refine AllReady.cons rfl (fun K hK => ?_) AllReady.nil
  go_simp
  refine hK _ _ ?_
  clear hK K
  refine wpAny_done (by kernel_rfl) ?_ _
  go_wp2
  go_ret
  exact ⟨by simp, HY.out, HK.out⟩
 ·refine step_load22 rfl (.tmp 3) rfl N rfl cs HC.out hcsz ?_
  refine hK _ _ ?_
  clear hK K
  refine wpAny_ready (rs := [4, 6]) (by kernel_rfl) (by simp) ?_
  refine AllReady.cons rfl (fun K hK => ?_) (AllReady.cons rfl (fun K hK => ?_) AllReady.nil)
  ·go_simp
   refine hK _ _ ?_
   clear hK K
   refine wpAny_ready (rs := [6]) (by kernel_rfl) (by simp) ?_
   refine AllReady.cons rfl (fun K hK => ?_) AllReady.nil
   refine step_slice22 rfl (.tmp 17) rfl cs rfl hcsz ?_
   refine hK _ _ ?_
   clear hK K
   refine wpAny_ready (rs := [7]) (by kernel_rfl) (by simp) ?_
   refine AllReady.cons rfl (fun K hK => ?_) AllReady.nil
   refine step_appR (w' := w') rfl (.tmp 16) (.tmp 18) 47 47 rfl _ _ (.slice ga' (n + 1) cap') rfl rfl hr ?_
   refine hK _ _ ?_
   clear hK K
   refine wpAny_take (i := 8) (v := .pointer (some ⟨p, 0, none⟩)) rfl (by kernel_rfl) (by kernel_rfl) (by kernel_rfl) (fun _ _ _ h => h) (Or.inl ⟨by rfl, by intro w; go_simp; try with_reducible rfl⟩) ?_
   refine wpAny_take (i := 9) (v := .pointer (some ⟨p, 1, none⟩)) rfl (by kernel_rfl) (by kernel_rfl) (by kernel_rfl) (fun _ _ _ h => h) (Or.inl ⟨by rfl, by intro w; go_simp; try with_reducible rfl⟩) ?_
   refine wpAny_ready (rs := [10]) (by kernel_rfl) (by simp) ?_
   refine AllReady.cons rfl (fun K hK => ?_) AllReady.nil
   go_simp
   refine hK _ _ ?_
   clear hK K
   refine wpAny_done (by kernel_rfl) ?_ _
   go_wp2
   go_ret
   exact ⟨by simp, HY.out, HK.out⟩
  ·refine step_slice22 rfl (.tmp 17) rfl cs rfl hcsz ?_
   refine hK _ _ ?_
   clear hK K
   refine wpAny_ready (rs := [4]) (by kernel_rfl) (by simp) ?_
   refine AllReady.cons rfl (fun K hK => ?_) AllReady.nil
   go_simp
   refine hK _ _ ?_
   clear hK K
   refine wpAny_ready (rs := [7]) (by kernel_rfl) (by simp) ?_
   refine AllReady.cons rfl (fun K hK => ?_) AllReady.nil
   refine step_appR (w' := w') rfl (.tmp 16) (.tmp 18) 47 47 rfl _ _ (.slice ga' (n + 1) cap') rfl rfl hr ?_
   refine hK _ _ ?_
   clear hK K
   refine wpAny_take (i := 8) (v := .pointer (some ⟨p, 0, none⟩)) rfl (by kernel_rfl) (by kernel_rfl) (by kernel_rfl) (fun _ _ _ h => h) (Or.inl ⟨by rfl, by intro w; go_simp; try with_reducible rfl⟩) ?_
   refine wpAny_take (i := 9) (v := .pointer (some ⟨p, 1, none⟩)) rfl (by kernel_rfl) (by kernel_rfl) (by kernel_rfl) (fun _ _ _ h => h) (Or.inl ⟨by rfl, by intro w; go_simp; try with_reducible rfl⟩) ?_
   refine wpAny_ready (rs := [10]) (by kernel_rfl) (by simp) ?_
   refine AllReady.cons rfl (fun K hK => ?_) AllReady.nil
   go_simp
   refine hK _ _ ?_
   clear hK K
   refine wpAny_done (by kernel_rfl) ?_ _
   go_wp2
   go_ret
   exact ⟨by simp, HY.out, HK.out⟩
end
section
open Go.RowKit
theorem room_any (p n cap L c : Nat) (ga : Option Addr) (w : World) (h0 : w.cell? ⟨p, 0, none⟩ = some (.int .i64 (L : Int))) (hc : w.cell? ⟨p, 1, none⟩ = some (.slice ga n cap)) (hL : L <= 1000000) (hn : n <= 1000000) :
  Calls Try.prog 21 #[.pointer (some ⟨p, 0, none⟩), .int .i64 (c : Int)] w fun e w' => e = .returned (.bool (decide (n + c <= L))) /\ Kept (fun k => k < w.heap.size) w w' := by
 by_cases hd : n + c <= L
 ·have e : decide ((L : Int) - (n : Int) >= (c : Int)) = true := decide_eq_true (by omega)
  rw [decide_eq_true hd]
  clear hd
  go_enter Try.func21, Try.ntmps21
  go_upto_region 1 with fail
  go_quiet (fail)
  go_wp2
  go_ret
  exact ⟨rfl, (Kept.refl _ w).drewN _⟩
 ·have e : decide ((L : Int) - (n : Int) >= (c : Int)) = false := decide_eq_false (by omega)
  rw [decide_eq_false hd]
  clear hd
  go_enter Try.func21, Try.ntmps21
  go_upto_region 1 with fail
  go_quiet (fail)
  go_wp2
  go_ret
  exact ⟨rfl, (Kept.refl _ w).drewN _⟩
theorem isElement_any (b o kd : Nat) (S T : ByteArray) (w : World) (h0 : w.cell? ⟨b, o, none⟩ = some (.int .u8 (kd : Int))) (h1 : w.cell? ⟨b, o + 1, none⟩ = some (.string S)) :
  Calls Try.prog 19 #[.pointer (some ⟨b, o, none⟩), .string T] w fun e w' => e = .returned (.bool (decide (kd = 1) && S.toList == T.toList)) /\ w' = w := by
 by_cases c : kd = 1
 ·subst c
  obtain ⟨q, hq⟩ : ∃ q, (S.toList == T.toList) = q := ⟨_, rfl⟩
  rw [hq]
  cases q
  all_goals
   go_enter Try.func19, Try.ntmps19
   go_wp2
   go_ret
   exact ⟨rfl, rfl⟩
 ·have e : ((kd : Int) == 1) = false := by
   have : (kd : Int) ≠ 1 := by omega
   simpa using this
  rw [decide_eq_false c]
  clear c
  go_enter Try.func19, Try.ntmps19
  go_wp2
  go_ret
  exact ⟨rfl, rfl⟩
theorem isContent_any (b o kd : Nat) (z : Int) (w : World) (h0 : w.cell? ⟨b, o, none⟩ = some (.int .u8 (kd : Int))) (h1 : w.cell? ⟨b, o + 10, none⟩ = some (.int .i64 z)) :
  Calls Try.prog 51 #[.pointer (some ⟨b, o, none⟩)] w fun e w' => e = .returned (.bool (decide (kd = 4) && decide (z ≠ -1))) /\ w' = w := by
 by_cases c : kd = 4
 ·subst c
  by_cases c2 : z = -1
  ·subst c2
   go_enter Try.func51, Try.ntmps51
   go_wp2
   go_ret
   exact ⟨rfl, rfl⟩
  ·have e : (z != -1) = true := by simpa using c2
   rw [decide_eq_true c2]
   clear c2
   go_enter Try.func51, Try.ntmps51
   go_wp2
   go_ret
   exact ⟨rfl, rfl⟩
 ·have e : ((kd : Int) == 4) = false := by
   have : (kd : Int) ≠ 4 := by omega
   simpa using this
  rw [decide_eq_false c]
  clear c
  go_enter Try.func51, Try.ntmps51
  go_wp2
  go_ret
  exact ⟨rfl, rfl⟩
def holdB (x : Nd) : Bool := if x.kind = 1 then !voidP x.name else decide (x.kind = 4) || decide (x.kind = 5)
theorem mayHold_any (b o : Nat) (x : Nd) (w : World) (h0 : w.cell? ⟨b, o, none⟩ = some (.int .u8 (x.kind : Int))) (h1 : w.cell? ⟨b, o + 1, none⟩ = some (sv x.name)) :
  Calls Try.prog 35 #[.pointer (some ⟨b, o, none⟩)] w fun e w' => e = .returned (.bool (holdB x)) /\ Kept (fun k => k < w.heap.size) w w' := by
 obtain ⟨kd, hk⟩ : ∃ k, x.kind = k := ⟨_, rfl⟩
 unfold holdB
 rw [hk] at h0 ⊢
 obtain ⟨S, hS⟩ : ∃ S : ByteArray, (⟨x.name.toArray⟩ : ByteArray) = S := ⟨_, rfl⟩
 have hl : x.name = S.toList := by rw [ByteArray.toList_eq, <- hS]
 rw [hl]
 replace h1 : w.cell? ⟨b, o + 1, none⟩ = some (.string S) := by rw [<- hS]; exact h1
 have rv := void_any S (fun k => k < w.heap.size) w
 obtain ⟨v, hv⟩ : ∃ v, voidP S.toList = v := ⟨_, rfl⟩
 rw [hv] at rv ⊢
 clear hl hS hv hk
 by_cases c1 : kd = 1
 ·subst c1
  cases v
  all_goals
   go_enter Try.func35, Try.ntmps35
   go_wp2_with fail
   refine rv.mono ?_
   rintro e w1 ⟨rfl, k1⟩
   clear rv
   go_wp2
   go_ret
   exact ⟨rfl, k1⟩
 ·have e1 : ((kd : Int) == 1) = false := by
   have : (kd : Int) ≠ 1 := by omega
   simpa using this
  rw [if_neg c1]
  clear rv
  by_cases c4 : kd = 4
  ·subst c4
   go_enter Try.func35, Try.ntmps35
   go_wp2
   go_ret
   exact ⟨rfl, Kept.refl _ _⟩
  ·have e4 : ((kd : Int) == 4) = false := by
    have : (kd : Int) ≠ 4 := by omega
    simpa using this
   by_cases c5 : kd = 5
   ·subst c5
    go_enter Try.func35, Try.ntmps35
    go_wp2
    go_ret
    exact ⟨rfl, Kept.refl _ _⟩
   ·have e5 : ((kd : Int) == 5) = false := by
     have : (kd : Int) ≠ 5 := by omega
     simpa using this
    rw [decide_eq_false c4, decide_eq_false c5]
    clear c1 c4 c5
    go_enter Try.func35, Try.ntmps35
    go_wp2
    go_ret
    exact ⟨rfl, Kept.refl _ _⟩
def moveB (S : Dm) (i : Nat) : Bool := (decide (i ≠ 0) && decide ((S.nd i).kind ≠ 5)) && !(decide ((S.nd i).kind = 4) && decide ((S.nd i).host ≠ -1))
theorem mayMove_any (K : Nat -> Prop) (p g cap i : Nat) (S : Dm) (w : World) (h : DY K w p S (some ⟨g, 0, none⟩) cap) (hi : i < S.n) (hn : S.n <= 1000000000) :
  Calls Try.prog 36 #[.pointer (some ⟨p, 0, none⟩), .int .i64 (i : Int)] w fun e w' => e = .returned (.bool (moveB S i)) /\ w' = w := by
 obtain ⟨aa, ac, hc, -⟩ := h.cell hi
 have c0 : w.cell? ⟨g, i * 22, none⟩ = some (.int .u8 ((S.nd i).kind : Int)) := hc 0 _ rfl
 have c10 : w.cell? ⟨g, i * 22 + 10, none⟩ = some (.int .i64 (S.nd i).host) := hc 10 _ rfl
 have c1 := h.c1
 have r := isContent_any g (i * 22) (S.nd i).kind (S.nd i).host w c0 c10
 unfold moveB
 obtain ⟨kd, hk⟩ : ∃ k, (S.nd i).kind = k := ⟨_, rfl⟩
 obtain ⟨z, hz⟩ : ∃ k, (S.nd i).host = k := ⟨_, rfl⟩
 obtain ⟨n, hne⟩ : ∃ n, S.n = n := ⟨_, rfl⟩
 rw [hk, hz] at r
 rw [hk] at c0
 rw [hne] at c1 hi hn
 rw [hk, hz]
 obtain ⟨q, hq⟩ : ∃ q, (decide (kd = 4) && decide (z ≠ -1)) = q := ⟨_, rfl⟩
 rw [hq] at r ⊢
 clear h hc c10 hk hz hne hq
 by_cases ci : i = 0
 ·subst ci
  clear r
  go_enter Try.func36, Try.ntmps36
  go_wp2
  go_ret
  exact ⟨rfl, rfl⟩
 ·have e1 : ((i : Int) != 0) = true := by simp; omega
  rw [decide_eq_true (show i ≠ 0 from ci)]
  by_cases c5 : kd = 5
  ·subst c5
   clear r ci
   go_enter Try.func36, Try.ntmps36
   go_wp2
   go_ret
   exact ⟨rfl, rfl⟩
  ·have e5 : ((kd : Int) != 5) = true := by
    have : (kd : Int) ≠ 5 := by omega
    simpa using this
   rw [decide_eq_true (show kd ≠ 5 from c5)]
   clear ci c5
   go_enter Try.func36, Try.ntmps36
   go_wp2_with (go_at_call 51; refine r.mono ?_; rintro e w2 ⟨rfl, rfl⟩)
   go_ret
   exact ⟨rfl, rfl⟩
end
end Go.Proofs.Ytojbjiopilkbgaa
