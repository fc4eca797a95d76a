/-
 The document's own right.; The document's own Limit, Drop, Set: what they refuse; what append of attributes leaves.; The document's own Drop.; The document's own Set.; The document's own Given, Slot.; The document's own Insert: what it refuses, one node.; The document's own Insert: where it does not
-/
import Derived.Test.YtfeinppedejlpaaGreatNW17
import Derived.Test.YtfeinppedejlpaaGreatNB08
import Derived.Test.YtfeinppedejlpaaGreatNB19
namespace Go.Proofs.YtfeinppedejlpaaGreat
variable {J : Nat -> Prop}
set_option linter.unusedVariables false
set_option maxRecDepth 100000
set_option maxHeartbeats 8000000
section
open Go.RowKit Go.Sort
theorem zg3 (S D : List UInt8) (l : List Atr) : zat ⟨4, S, D, l⟩ = ((S == [] && D == []) && decide (l.length = 0)) := rfl
theorem zgm (S D : List UInt8) (l : List Atr) : zat ⟨2, S, D, l⟩ = ((S == []) && decide (l.length = 0)) := by
 obtain ⟨d, hd, hne⟩ : ∃ d, (if (2 : Nat) = 2 /\ D = [] then [45] else D) = d /\ (d == []) = false := by
  refine ⟨_, rfl, ?_⟩
  by_cases c : D = []
  ·rw [if_pos ⟨rfl, c⟩]; rfl
  ·rw [if_neg (fun h => c h.2)]
   cases D with
   | nil => exact absurd rfl c
   | cons a r => rfl
 show (if (2 : Nat) = 4 then _ else za7 [⟨0, 2, S, l, if (2 : Nat) = 2 /\ D = [] then [45] else D⟩]) = _
 rw [if_neg (by decide), hd]
 show (decide (1 <= 5000) && zbb 0 true [⟨0, 2, S, l, d⟩]) = _
 simp [zbb, zbc, hne]
theorem zfa (kd : Nat) (h4 : kd ≠ 4) (h2 : kd ≠ 2) (S D : List UInt8) (l : List Atr) : zat ⟨kd, S, D, l⟩ = za7 [⟨0, kd, S, l, D⟩] := by
 show (if kd = 4 then _ else za7 [⟨0, kd, S, l, if kd = 2 /\ D = [] then [45] else D⟩]) = _
 rw [if_neg h4, if_neg (fun h => h2 h.1)]
theorem zgd (kd : Nat) (S D : ByteArray) (l : List Atr) (aa : Option Addr) (n ac : Nat) (hln : l.length = n) (hn : n <= 1000000) (hac : n <= ac) (hsz : ∀ x ∈ l, x.name.length < 1000000) (hS : S.size < 1000000) (up : Int) (ka : Option Addr) (kn kc : Nat) (sh ho co : Int) (f : Fg) (w : World) (ha : Zag (fun k => k < w.heap.size) w aa l) :
  Calls Tryz.prog 185 #[.agg (rV (kd : Int) S D aa n ac up ka kn kc sh ho co f)] w fun e w' => e = .returned (.bool (zat ⟨kd, S.toList, D.toList, l⟩)) /\ Kept (fun k => k < w.heap.size) w w' := by
 obtain ⟨W, hW⟩ : ∃ W, w.alloc (.cells (rV (kd : Int) S D aa n ac up ka kn kc sh ho co f) 58) = W := ⟨_, rfl⟩
 obtain ⟨N, hN⟩ : ∃ N, w.heap.size = N := ⟨_, rfl⟩
 have kW : Kept (fun k => k < w.heap.size) w W := by rw [<- hW]; exact (Kept.refl _ w).alloc (fun _ h => h) _
 have hb : W.heap[N]? = some (.cells (rV (kd : Int) S D aa n ac up ka kn kc sh ho co f) 58 (0, 0)) := by rw [<- hW, <- hN]; exact heap_alloc_new w _
 have c0 : W.cell? ⟨N, 0, none⟩ = some (.int .u8 (kd : Int)) := by rw [zaa hb]; rfl
 have c1 : W.cell? ⟨N, 1, none⟩ = some (.string S) := by rw [zaa hb]; rfl
 have c2 : W.cell? ⟨N, 2, none⟩ = some (.string D) := by rw [zaa hb]; rfl
 have c3 : W.cell? ⟨N, 3, none⟩ = some (.slice aa n ac) := by rw [zaa hb]; rfl
 have HK : Hid (Kept (fun k => k < w.heap.size) w W) := kW
 have HW : Hid (w.alloc (.cells (rV (kd : Int) S D aa n ac up ka kn kc sh ho co f) 58) = W) := hW
 have HN : Hid (w.heap.size = N) := hN
 obtain ⟨s, hs⟩ : ∃ s, (S.toList == []) = s := ⟨_, rfl⟩
 obtain ⟨e, he⟩ : ∃ e, (D.toList == []) = e := ⟨_, rfl⟩
 obtain ⟨z, hz⟩ : ∃ z, decide (n = 0) = z := ⟨_, rfl⟩
 have hz' : ((n : Int) == 0) = z := by rw [<- hz, Bool.eq_iff_iff]; simp
 have haW : Zag (fun k => k < W.heap.size) W aa l := ha.kept kW fun k h => ltl h kW.size
 by_cases q4 : kd = 4
 ·subst q4
  have HWk : Hid (w.alloc (.cells (rV 4 S D aa n ac up ka kn kc sh ho co f) 58) = W) := HW.out
  have c0k : W.cell? ⟨N, 0, none⟩ = some (.int .u8 4) := c0
  clear HW c0
  rw [zg3, hs, he, hln, hz]
  clear hW hN kW hb ha haW hz hln
  cases s <;> cases e
  all_goals
   go_enter Tryz.func185, Tryz.ntmps185
   go_upto_region 1 with fail
   rw [HWk.out, HN.out]
   go_wp2
   go_ret
   exact ⟨by simp, HK.out⟩
 have p4 : ((kd : Int) == 4) = false := by simp; omega
 by_cases q2 : kd = 2
 ·subst q2
  have HWk : Hid (w.alloc (.cells (rV 2 S D aa n ac up ka kn kc sh ho co f) 58) = W) := HW.out
  have c0k : W.cell? ⟨N, 0, none⟩ = some (.int .u8 2) := c0
  clear HW c0
  rw [zgm, hs, hln, hz]
  clear hW hN kW hb ha haW hz hln he
  cases s
  all_goals
   go_enter Tryz.func185, Tryz.ntmps185
   go_upto_region 1 with fail
   rw [HWk.out, HN.out]
   go_wp2
   go_ret
   exact ⟨by simp, HK.out⟩
 have p2 : ((kd : Int) == 2) = false := by simp; omega
 rw [zfa kd q4 q2]
 obtain ⟨V, hV⟩ : ∃ V, W.alloc (.cells #[.int .i64 0, .int .u8 (kd : Int), .string S, .string D, .slice aa n ac] 163) = V := ⟨_, rfl⟩
 obtain ⟨N2, hN2⟩ : ∃ N2, W.heap.size = N2 := ⟨_, rfl⟩
 have kV : Kept (fun k => k < W.heap.size) W V := by rw [<- hV]; exact (Kept.refl _ W).alloc (fun _ h => h) _
 have hb2 : V.heap[N2]? = some (.cells #[.int .i64 0, .int .u8 (kd : Int), .string S, .string D, .slice aa n ac] 163 (0, 0)) := by rw [<- hV, <- hN2]; exact heap_alloc_new W _
 have rs := zkp [⟨0, kd, S.toList, l, D.toList⟩] (some ⟨N2, 0, none⟩) 1 1 rfl (by decide) (fun y hy => by
  rw [List.mem_singleton.1 hy]
  refine ⟨?_, by show l.length <= _; rw [hln]; exact hn, hsz⟩
  show S.toList.length < _
  rw [ByteArray.toList_eq]; exact hS) V (fun j hj => by
  have : j = 0 := by simp at hj; exact hj
  subst this
  refine ⟨N2, 0, aa, ac, rfl, zad hb2, haW.kept kV fun k h => ltl h kV.size, by show l.length <= ac; rw [hln]; exact hac, fun i u hu => ?_⟩
  rw [show 0 + 0 * 5 + i = i by omega, zaa hb2, <- hu, <- Array.getElem?_toList]
  congr 1
  show _ = zeo ⟨0, kd, S.toList, l, D.toList⟩ aa ac
  simp only [zeo, sv, ByteArray.toList_eq, hln])
 obtain ⟨b, hbe⟩ : ∃ b, za7 [⟨0, kd, S.toList, l, D.toList⟩] = b := ⟨_, rfl⟩
 rw [hbe] at rs ⊢
 have HV : Hid (W.alloc (.cells #[.int .i64 0, .int .u8 (kd : Int), .string S, .string D, .slice aa n ac] 163) = V) := hV
 have HN2 : Hid (W.heap.size = N2) := hN2
 have HKV : Hid (Kept (fun k => k < w.heap.size) w V) := kt kW kV
 clear hW hN kW hb ha haW hz hln he hs hV hN2 kV hb2 hbe
 go_enter Tryz.func185, Tryz.ntmps185
 go_upto_region 1 with fail
 rw [HW.out, HN.out]
 go_wp2_with fail
 rw [HV.out, HN2.out]
 refine rs.mono ?_
 rintro e1 w3 ⟨rfl, hk3⟩
 have HK3 : Hid (Kept (fun k => k < w.heap.size) w w3) := kt HKV.out hk3
 clear rs hk3
 go_wp2
 go_ret
 exact ⟨rfl, HK3.out⟩
end
section
open Go.RowKit Go.Sort
theorem Zc7.ex (l : List Atr) (nm : List UInt8) : ∃ z, Zc7 l nm z := by
 by_cases h : ∃ x ∈ l, x.name = nm
 ·have h' : ∃ x ∈ l, (fun x : Atr => x.name == nm) x = true := by
   obtain ⟨x, hx, e⟩ := h
   exact ⟨x, hx, by simpa using e⟩
  have hk := List.findIdx_lt_length.2 h'
  refine ⟨_, .yes hk (by have := List.findIdx_getElem (w := hk); simpa using this) fun x hx e => ?_⟩
  obtain ⟨j, hj, rfl⟩ := List.mem_take_iff_getElem.1 hx
  have hj' : j < l.findIdx (fun x : Atr => x.name == nm) := by omega
  have := List.not_of_lt_findIdx hj'
  simp [e] at this
 ·exact ⟨_, .no fun x hx e => h ⟨x, hx, e⟩⟩
theorem Zc7.one {l : List Atr} {nm : List UInt8} {z z' : Int} (h : Zc7 l nm z) (h' : Zc7 l nm z') : z = z' := by
 cases h with
 | no hn =>
  cases h' with
  | no _ => rfl
  | yes hk e _ => exact absurd e (hn _ (List.getElem_mem hk))
 | @yes k hk e ha =>
  cases h' with
  | no hn => exact absurd e (hn _ (List.getElem_mem hk))
  | @yes k' hk' e' ha' =>
   rcases Nat.lt_trichotomy k k' with c | c | c
   ·exact absurd e (ha' _ (List.mem_take_iff_getElem.2 ⟨k, by omega, rfl⟩))
   ·rw [c]
   ·exact absurd e' (ha _ (List.mem_take_iff_getElem.2 ⟨k', by omega, rfl⟩))
theorem Zag.drop {F : Nat -> Prop} {w : World} {g o : Nat} {l : List Atr} (h : Zag F w (some ⟨g, o, none⟩) l) (k : Nat) : Zag F w (some ⟨g, o + k * 2, none⟩) (l.drop k) := fun j hj => by
 have hj' : k + j < l.length := by rw [List.length_drop] at hj; omega
 obtain ⟨g1, o1, e, hF, a, b⟩ := h (k + j) hj'
 injection e with e
 injection e with e1 e2
 subst e1 e2
 refine ⟨g, o + k * 2, rfl, hF, ?_, ?_⟩
 ·rw [List.getElem_drop, <- a]; congr 2; omega
 ·rw [List.getElem_drop, <- b]; congr 2; omega
theorem zrd {K : Nat -> Prop} {w : World} {ao : Option Addr} {n cap : Nat} {l : List Atr} (h : Zac K w 108 2 ao n cap (zab l)) (hKl : ∀ k, K k -> k < w.heap.size) (hn : n <= 1000000) (r : List Atr) (ba : Option Addr) (m bc : Nat) (hrm : r.length = m) (hm : m <= 1000000) (hr : Zag (fun k => k < w.heap.size) w ba r) :
  ∃ ao' cap' w', (Builtin.append_ #[44, 44] 44 #[.slice ao n cap, .slice ba m bc]).run Tryz.prog w = .ok (.slice ao' (n + m) cap') w' /\ Zac K w' 108 2 ao' (n + m) cap' (zab (l ++ r)) /\ Kept K w w' := by
 obtain ⟨i, hi, hip⟩ := Option.map_eq_some_iff.1 znq
 have hz : i.zero = _ := congrArg (·.1) hip
 have hsz : i.size = 2 := congrArg (·.2.1) hip
 have hby : i.bytes = 32 := congrArg (·.2.2) hip
 by_cases h0 : m = 0
 ·subst h0
  have hl0 : r = [] := List.eq_nil_of_length_eq_zero hrm
  subst hl0
  have hs : Src Tryz.prog i.size 44 (.slice ba 0 bc) 0 [] w := by
   cases ba with
   | none => exact Src.ofNil w Tryz.underlying44 _
   | some a => exact Src.ofSlice w Tryz.underlying44 a 0 bc [] (by simp) (fun j u hj => by simp at hj) (fun u hu => by cases hu)
  refine ⟨ao, cap, w, ?_, ?_, Kept.refl _ _⟩
  ·rw [Nat.add_zero]
   exact run_append_nothing w 44 44 44 108 i Tryz.underlying44 hi ao n cap h.2.1 _ hs
  ·rw [Nat.add_zero, List.append_nil]
   exact h
 ·obtain ⟨g, o, rfl, hg, hc⟩ := hr.cells (by omega)
  have hs : Src Tryz.prog 2 44 (.slice (some ⟨g, o, none⟩) m bc) m (zab r) w := by
   refine Src.ofSlice w Tryz.underlying44 _ m bc (zab r) (by rw [zb7, hrm]) (fun j u hj => ?_) (zgp r)
   rw [Addr.add_lit]
   exact hc j u hj
  obtain ⟨ao', c, w', hr', ho, hk⟩ := zee (P := Tryz.prog) (K := K) w 44 44 44 108 i _ Tryz.underlying44 hi hz 2 hsz rfl (by omega) h _ m (by omega) (by omega) _ hs hKl (by omega)
  exact ⟨ao', c, w', hr', by rw [zbr]; exact ho, hk⟩
theorem znz (K : Nat -> Prop) (p : Nat) (M : Dm) (R G : Nat -> List Nat) (i : Int) (S : ByteArray) (w : World) (h : RX K J w p M R G) (hn : M.n <= 1000000) (z : Int) (hz : (if 0 <= i /\ i < (M.n : Int) then (if (M.nd i.toNat).kind = 1 then 0 else 81) else 80) = z) (h0 : z ≠ 0) :
  Calls Tryz.prog 100 #[.pointer (some ⟨p, 0, none⟩), .int .i64 i, .string S] w fun e w' => e = .returned (.int .i64 z) /\ w' = w := by
 have re := zcg K p M R G i w h hn
 rw [hz] at re
 have z0 : (z != 0) = true := by simpa using h0
 clear h hz
 go_enter Tryz.func100, Tryz.ntmps100
 go_wp2_with (go_at_call 173; refine re.mono ?_; rintro e1 w3 ⟨rfl, hw3⟩; replace hw3 := hw3.symm; subst hw3)
 go_ret
 exact ⟨rfl, rfl⟩
theorem zqk (K : Nat -> Prop) (p : Nat) (M : Dm) (R G : Nat -> List Nat) (i : Int) (S T : ByteArray) (w : World) (h : RX K J w p M R G) (hn : M.n <= 1000000) (z : Int) (hz : (if 0 <= i /\ i < (M.n : Int) then (if (M.nd i.toNat).kind = 1 then 0 else 81) else 80) = z) (h0 : z ≠ 0) :
  Calls Tryz.prog 98 #[.pointer (some ⟨p, 0, none⟩), .int .i64 i, .string S, .string T] w fun e w' => e = .returned (.int .i64 z) /\ w' = w := by
 have re := zcg K p M R G i w h hn
 rw [hz] at re
 have z0 : (z != 0) = true := by simpa using h0
 clear h hz
 go_enter Tryz.func98, Tryz.ntmps98
 go_wp2_with (go_at_call 173; refine re.mono ?_; rintro e1 w3 ⟨rfl, hw3⟩; replace hw3 := hw3.symm; subst hw3)
 go_ret
 exact ⟨rfl, rfl⟩
end
section
open Go.RowKit Go.Sort
theorem zky (K : Nat -> Prop) (p i : Nat) (M : Dm) (R G : Nat -> List Nat) (S : ByteArray) (w : World) (h : RX K J w p M R G) (hi : i < M.n) (hn : M.n <= 1000000) (hkd : (M.nd i).kind = 1) (hl : (M.nd i).attrs.length <= 1000000) (hf : ∀ x ∈ (M.nd i).attrs, x.name ≠ S.toList) :
  Calls Tryz.prog 100 #[.pointer (some ⟨p, 0, none⟩), .int .i64 (i : Int), .string S] w fun e w' => e = .returned (.int .i64 82) /\ w' = w := by
 have re := zcg K p M R G (i : Int) w h hn
 rw [if_pos ⟨by omega, by omega⟩, Int.toNat_natCast, if_pos hkd] at re
 have rf : Calls Tryz.prog 174 #[.pointer (some ⟨p, 0, none⟩), .int .i64 (i : Int), .string S] w fun e w' => e = .returned (.int .i64 (-1)) /\ w' = w := (zd3 K p i M R G S w h hi hn hl).mono fun e w' ⟨z, hz, he, hw⟩ => ⟨by rw [he, hz.one (.no hf)], hw⟩
 clear h hf
 go_enter Tryz.func100, Tryz.ntmps100
 go_wp2_with (first | (go_at_call 173; refine re.mono ?_; rintro e1 w3 ⟨rfl, hw3⟩; replace hw3 := hw3.symm; subst hw3) | (go_at_call 174; refine rf.mono ?_; rintro e1 w3 ⟨rfl, hw3⟩; replace hw3 := hw3.symm; subst hw3))
 go_ret
 exact ⟨rfl, rfl⟩
theorem zo9 (K : Nat -> Prop) (p i k : Nat) (M : Dm) (R G : Nat -> List Nat) (S : ByteArray) (w : World) (h : RX K J w p M R G) (hi : i < M.n) (hn : M.n <= 1000000) (hkd : (M.nd i).kind = 1) (hl : (M.nd i).attrs.length <= 1000000) (hk : k < (M.nd i).attrs.length) (hf : Zc7 (M.nd i).attrs S.toList (k : Int)) :
  Calls Tryz.prog 100 #[.pointer (some ⟨p, 0, none⟩), .int .i64 (i : Int), .string S] w fun e w' => e = .returned (.int .i64 0) /\ Kept K w w' /\ RX K J w' p (M.setN i { M.nd i with attrs := (M.nd i).attrs.eraseIdx k }) R G := by
 have re := zcg K p M R G (i : Int) w h hn
 rw [if_pos ⟨by omega, by omega⟩, Int.toNat_natCast, if_pos hkd] at re
 have rf : Calls Tryz.prog 174 #[.pointer (some ⟨p, 0, none⟩), .int .i64 (i : Int), .string S] w fun e w' => e = .returned (.int .i64 (k : Int)) /\ w' = w := (zd3 K p i M R G S w h hi hn hl).mono fun e w' ⟨z, hz, he, hw⟩ => ⟨by rw [he, hz.one (hf)], hw⟩
 obtain ⟨A, h⟩ := h
 obtain ⟨g, hg, -, -, hgl⟩ := h.nat (by omega)
 have hpl := h.plt
 have c1 := h.c1
 rw [hg] at c1
 have c3 : w.cell? ⟨g, i * 14 + 3, none⟩ = some (.slice (A.aa i) (M.nd i).attrs.length (A.ac i)) := h.cell hg hi 3 _ rfl
 have hat : Zag (fun k => k < w.heap.size) w (A.aa i) (M.nd i).attrs := (h.ats i hi).to (fun _ h => h.1) (fun _ _ => rfl)
 have hcap := h.acl i hi
 obtain ⟨g1, o1, hae, hg1l, -⟩ := hat k hk
 rw [hae] at c3 hat
 obtain ⟨l, hle⟩ : ∃ l, (M.nd i).attrs = l := ⟨_, rfl⟩
 obtain ⟨ac, hac⟩ : ∃ ac, A.ac i = ac := ⟨_, rfl⟩
 obtain ⟨n, hne⟩ : ∃ n, l.length = n := ⟨_, rfl⟩
 rw [hle] at hk hl hat
 rw [hle, hac, hne] at c3
 rw [hle, hac, hne] at hcap
 rw [hne] at hk hl
 have ra := zde (l.take k) (some ⟨g1, o1, none⟩) k ac (by rw [List.length_take]; omega) (by omega) w (hat.take k)
 have HY : Hid (RY K J w p M R G A) := h
 have HG : Hid (A.na = some ⟨g, 0, none⟩) := hg
 have HA : Hid (Zag (fun k => k < w.heap.size) w (some ⟨g1, o1, none⟩) l) := hat
 have HL : Hid (l.length = n) := hne
 have HE : Hid ((M.nd i).attrs = l) := hle
 have e0 : decide ((k : Int) < 0) = false := decide_eq_false (by omega)
 clear h hg hat hle hne hac hkd hf hae
 go_enter Tryz.func100, Tryz.ntmps100
 go_wp2_with (first | (go_at_call 173; refine re.mono ?_; rintro e1 w3 ⟨rfl, hw3⟩; replace hw3 := hw3.symm; subst hw3) | (go_at_call 174; refine rf.mono ?_; rintro e1 w3 ⟨rfl, hw3⟩; replace hw3 := hw3.symm; subst hw3))
 refine ra.mono ?_
 rintro e1 w3 ⟨ao, c, rfl, hO, hk3⟩
 have c1w : w3.cell? ⟨p, 1, none⟩ = some (.slice (some ⟨g, 0, none⟩) M.n A.nc) := (hk3.cell (p := ⟨p, 1, none⟩) hpl).trans c1
 have c3w : w3.cell? ⟨g, i * 14 + 3, none⟩ = some (.slice (some ⟨g1, o1, none⟩) n ac) := (hk3.cell (p := ⟨g, i * 14 + 3, none⟩) hgl).trans c3
 have HA3 : Hid (Zag (fun k => k < w3.heap.size) w3 (some ⟨g1, o1, none⟩) l) := HA.out.kept hk3 fun k h => ltl h hk3.size
 have HO : Hid (Zac (fun k => k < w.heap.size) w3 108 2 ao k c (zab (l.take k))) := hO
 have HK3 : Hid (Kept (fun k => k < w.heap.size) w w3) := hk3
 clear ra re rf hO hk3 c1 c3 e0
 have FIN : Hid (∀ (w4 : World) (ao' : Option Addr) (m cap' : Nat) (r : List Atr), r.length = m -> r = l.eraseIdx k -> Zac (fun k => k < w.heap.size) w4 108 2 ao' m cap' (zab r) -> Kept (fun k => k < w.heap.size) w3 w4 ->
   w4.cell? ⟨p, 1, none⟩ = some (.slice (some ⟨g, 0, none⟩) M.n A.nc) /\ w4.cell? ⟨g, i * 14 + 3, none⟩ = some (.slice (some ⟨g1, o1, none⟩) n ac) /\ w4.frozen? ⟨g, i * 14 + 3, none⟩ = false /\
   Hid (Kept K w (w4.setCell ⟨g, i * 14 + 3, none⟩ (.slice ao' m cap')) /\ RX K J (w4.setCell ⟨g, i * 14 + 3, none⟩ (.slice ao' m cap')) p (M.setN i { M.nd i with attrs := (M.nd i).attrs.eraseIdx k }) R G)) := fun w4 ao' m cap' r hm hr hO hK => by
  have k4 : Kept (fun k => k < w.heap.size) w w4 := HK3.out.trans hK
  refine ⟨(hK.cell (p := ⟨p, 1, none⟩) hpl).trans c1w, (hK.cell (p := ⟨g, i * 14 + 3, none⟩) hgl).trans c3w, (k4.frozen (p := ⟨g, i * 14 + 3, none⟩) hgl).trans (HY.out.fg HG.out _), ?_⟩
  have ha : Zag (fun x => w.heap.size <= x /\ x < w4.heap.size) w4 ao' r := hO.atsAt fun x hx => ⟨Nat.le_of_not_lt (Zac.out hO hx).1, (Zac.out hO hx).2⟩
  obtain ⟨hY5, hK5⟩ := HY.out.setAts k4 HG.out hi r ao' cap' ha (by rw [hm]; exact hO.2.1)
  rw [hm] at hY5 hK5
  have kk : Kept K w (w4.setCell ⟨g, i * 14 + 3, none⟩ (.slice ao' m cap')) := (k4.mono HY.out.lt).trans hK5
  have rx : RX K J (w4.setCell ⟨g, i * 14 + 3, none⟩ (.slice ao' m cap')) p (M.setN i { M.nd i with attrs := (M.nd i).attrs.eraseIdx k }) R G := by
   rw [HE.out, <- hr]
   exact ⟨_, hY5⟩
  exact (show Hid _ from ⟨kk, rx⟩)
 by_cases hz : ac = k + 1
 ·subst hz
  have hnk : n = k + 1 := by omega
  subst hnk
  obtain ⟨ao', cap', w4, hr, hO4, hK4⟩ := zrd HO.out (fun k h => ltl h HK3.out.size) (by omega) [] (some ⟨g1, o1, none⟩) 0 0 rfl (by omega) (Zag.nil _ _ _)
  rw [Nat.add_zero] at hr hO4
  obtain ⟨d1, d3, d4, HF⟩ := FIN.out w4 ao' k cap' _ (by rw [List.length_append, List.length_take, HL.out]; simp) (by rw [List.eraseIdx_eq_take_drop_succ, List.drop_of_length_le (by rw [HL.out]; exact Nat.le_refl _)]) hO4 hK4
  clear hO4 hK4 FIN
  go_wp2_with (at_builtin; refine zak (w' := w4) rfl (.tmp 33) (.tmp 44) 44 44 rfl _ _ (.slice ao' k cap') rfl rfl hr ?_)
  go_ret
  exact ⟨rfl, HF.out.1, HF.out.2⟩
 ·have hlt : k + 1 < ac := by omega
  have ea : decide (ac = k + 1) = false := decide_eq_false hz
  obtain ⟨ao', cap', w4, hr, hO4, hK4⟩ := zrd HO.out (fun k h => ltl h HK3.out.size) (by omega) (l.drop (k + 1)) (some ⟨g1, o1 + (k + 1) * 2, none⟩) (n - (k + 1)) (ac - (k + 1)) (by rw [List.length_drop, HL.out]) (by omega) (HA3.out.drop (k + 1))
  obtain ⟨d1, d3, d4, HF⟩ := FIN.out w4 ao' (k + (n - (k + 1))) cap' _ (by rw [List.length_append, List.length_take, List.length_drop, HL.out]; omega) (by rw [List.eraseIdx_eq_take_drop_succ]) hO4 hK4
  clear hO4 hK4 FIN
  go_wp2_with (at_builtin; refine zak (w' := w4) rfl (.tmp 33) (.tmp 44) 44 44 rfl _ _ (.slice ao' (k + (n - (k + 1))) cap') rfl rfl hr ?_)
  go_ret
  exact ⟨rfl, HF.out.1, HF.out.2⟩
end
section
open Go.RowKit Go.Sort
theorem zof (K : Nat -> Prop) (p i : Nat) (M : Dm) (R G : Nat -> List Nat) (S T : ByteArray) (w : World) (h : RX K J w p M R G) (hi : i < M.n) (hn : M.n <= 1000000) (hkd : (M.nd i).kind = 1) (hl : (M.nd i).attrs.length <= 1000000) (hS : S.size < 1000000) (z : Int) (hf : Zc7 (M.nd i).attrs S.toList z) (q : Bool) (hq : zbg ⟨S.toList, T.toList⟩ = q) (hb : q = false \/ (z = -1 /\ 50 <= (M.nd i).attrs.length)) :
  Calls Tryz.prog 98 #[.pointer (some ⟨p, 0, none⟩), .int .i64 (i : Int), .string S, .string T] w fun e w' => e = .returned (.int .i64 82) /\ Kept K w w' /\ RX K J w' p M R G := by
 obtain ⟨W, hW⟩ : ∃ W, w.alloc (.cells #[.string S, .string T] 108) = W := ⟨_, rfl⟩
 obtain ⟨N, hN⟩ : ∃ N, w.heap.size = N := ⟨_, rfl⟩
 have kW : Kept (fun k => k < w.heap.size) w W := by rw [<- hW]; exact (Kept.refl _ w).alloc (fun _ h => h) _
 have b0 : W.heap[N]? = some (.cells #[.string S, .string T] 108 (0, 0)) := by rw [<- hW, <- hN]; exact heap_alloc_new w _
 have hXW : RX K J W p M R G := h.kept kW
 have re := zcg K p M R G (i : Int) w h hn
 rw [if_pos ⟨by omega, by omega⟩, Int.toNat_natCast, if_pos hkd] at re
 have rf : Calls Tryz.prog 174 #[.pointer (some ⟨p, 0, none⟩), .int .i64 (i : Int), .string S] W fun e w' => e = .returned (.int .i64 z) /\ w' = W := (zd3 K p i M R G S W hXW hi hn hl).mono fun e w' ⟨z', hz, he, hw⟩ => ⟨by rw [he, hz.one hf], hw⟩
 obtain ⟨A, hY⟩ := hXW
 obtain ⟨g, hg, -, -, hgl⟩ := hY.nat (by omega)
 have hpl := hY.plt
 have c1 := hY.c1
 rw [hg] at c1
 have c3 : W.cell? ⟨g, i * 14 + 3, none⟩ = some (.slice (A.aa i) (M.nd i).attrs.length (A.ac i)) := hY.cell hg hi 3 _ rfl
 have d0 : W.cell? ⟨N, 0, none⟩ = some (.string S) := by rw [zaa b0]; rfl
 have d1 : W.cell? ⟨N, 1, none⟩ = some (.string T) := by rw [zaa b0]; rfl
 have HW : Hid (w.alloc (.cells #[.string S, .string T] 108) = W) := hW
 have HN : Hid (w.heap.size = N) := hN
 clear hW hN
 have rq := zco S T hS (fun k => k < W.heap.size) W (fun _ h => h)
 have e1 : zbg ⟨S.data.toList, T.data.toList⟩ = q := by rw [<- hq, ByteArray.toList_eq, ByteArray.toList_eq]
 rw [e1] at rq
 have HF : Hid (Zc7 (M.nd i).attrs S.toList z) := hf
 have HY : Hid (RY K J W p M R G A) := hY
 have HG : Hid (A.na = some ⟨g, 0, none⟩) := hg
 have HKW : Hid (Kept K w W) := kW.mono h.lt
 have HKWm : Hid (∀ w', Kept (fun k => k < W.heap.size) W w' -> Kept K w w') := fun w' hk => (kW.mono h.lt).trans (hk.mono HY.out.lt)
 obtain ⟨aa, haa⟩ : ∃ aa, A.aa i = aa := ⟨_, rfl⟩
 obtain ⟨ac, hac⟩ : ∃ ac, A.ac i = ac := ⟨_, rfl⟩
 obtain ⟨l, hle⟩ : ∃ l, (M.nd i).attrs = l := ⟨_, rfl⟩
 obtain ⟨n, hne⟩ : ∃ n, l.length = n := ⟨_, rfl⟩
 rw [hle, haa, hac, hne] at c3
 have HAA : Hid (A.aa i = aa) := haa
 have HAC : Hid (A.ac i = ac) := hac
 have HE : Hid ((M.nd i).attrs = l) := hle
 have HL : Hid (l.length = n) := hne
 have hl' : n <= 1000000 := by rw [<- hne, <- hle]; exact hl
 have hnN : N < W.heap.size := zad b0
 rw [hle, hne] at hb
 clear h hq hf hkd hl hY hg kW haa hac hle hne e1 b0
 go_enter Tryz.func98, Tryz.ntmps98
 go_wp2_with (go_at_call 173; refine re.mono ?_; rintro e1 w3 ⟨rfl, hw3⟩; replace hw3 := hw3.symm; subst hw3)
 rw [HW.out, HN.out]
 refine rf.mono ?_
 rintro e1 w3 ⟨rfl, hw3⟩
 replace hw3 := hw3.symm
 subst hw3
 go_wp2_with fail
 refine rq.mono ?_
 rintro e1 w4 ⟨rfl, hk4⟩
 have c1w : w4.cell? ⟨p, 1, none⟩ = some (.slice (some ⟨g, 0, none⟩) M.n A.nc) := (hk4.cell (p := ⟨p, 1, none⟩) hpl).trans c1
 have c3w : w4.cell? ⟨g, i * 14 + 3, none⟩ = some (.slice aa n ac) := (hk4.cell (p := ⟨g, i * 14 + 3, none⟩) hgl).trans c3
 have d0w : w4.cell? ⟨N, 0, none⟩ = some (.string S) := (hk4.cell (p := ⟨N, 0, none⟩) hnN).trans d0
 have d1w : w4.cell? ⟨N, 1, none⟩ = some (.string T) := (hk4.cell (p := ⟨N, 1, none⟩) hnN).trans d1
 have HK4 : Hid (Kept (fun k => k < W.heap.size) W w4) := hk4
 clear re rf rq c1 c3 d0 d1 hk4
 cases q with
 | false =>
  clear hb
  go_wp2
  go_ret
  exact ⟨rfl, HKWm.out _ HK4.out, _, HY.out.kept HK4.out⟩
 | true =>
  obtain ⟨rfl, hb⟩ := hb.resolve_left (by decide)
  have e5 : decide ((n : Int) >= 50) = true := decide_eq_true (by omega)
  go_wp2
  go_ret
  exact ⟨rfl, HKWm.out _ HK4.out, _, HY.out.kept HK4.out⟩
theorem zlr (K : Nat -> Prop) (p i : Nat) (M : Dm) (R G : Nat -> List Nat) (S T : ByteArray) (w : World) (h : RX K J w p M R G) (hi : i < M.n) (hn : M.n <= 1000000) (hkd : (M.nd i).kind = 1) (hl : (M.nd i).attrs.length <= 1000000) (hS : S.size < 1000000) (z : Int) (hf : Zc7 (M.nd i).attrs S.toList z) (q : Bool) (hq : zbg ⟨S.toList, T.toList⟩ = q) (ht : q = true) (hb : z = -1 -> (M.nd i).attrs.length < 50) :
  Calls Tryz.prog 98 #[.pointer (some ⟨p, 0, none⟩), .int .i64 (i : Int), .string S, .string T] w fun e w' => e = .returned (.int .i64 0) /\ Kept K w w' /\ RX K J w' p (M.setN i { M.nd i with attrs := setA (M.nd i).attrs ⟨S.toList, T.toList⟩ }) R G := by
 obtain ⟨W, hW⟩ : ∃ W, w.alloc (.cells #[.string S, .string T] 108) = W := ⟨_, rfl⟩
 obtain ⟨N, hN⟩ : ∃ N, w.heap.size = N := ⟨_, rfl⟩
 have kW : Kept (fun k => k < w.heap.size) w W := by rw [<- hW]; exact (Kept.refl _ w).alloc (fun _ h => h) _
 have b0 : W.heap[N]? = some (.cells #[.string S, .string T] 108 (0, 0)) := by rw [<- hW, <- hN]; exact heap_alloc_new w _
 have hXW : RX K J W p M R G := h.kept kW
 have re := zcg K p M R G (i : Int) w h hn
 rw [if_pos ⟨by omega, by omega⟩, Int.toNat_natCast, if_pos hkd] at re
 have rf : Calls Tryz.prog 174 #[.pointer (some ⟨p, 0, none⟩), .int .i64 (i : Int), .string S] W fun e w' => e = .returned (.int .i64 z) /\ w' = W := (zd3 K p i M R G S W hXW hi hn hl).mono fun e w' ⟨z', hz, he, hw⟩ => ⟨by rw [he, hz.one hf], hw⟩
 obtain ⟨A, hY⟩ := hXW
 obtain ⟨g, hg, -, -, hgl⟩ := hY.nat (by omega)
 have hpl := hY.plt
 have c1 := hY.c1
 rw [hg] at c1
 have c3 : W.cell? ⟨g, i * 14 + 3, none⟩ = some (.slice (A.aa i) (M.nd i).attrs.length (A.ac i)) := hY.cell hg hi 3 _ rfl
 have d0 : W.cell? ⟨N, 0, none⟩ = some (.string S) := by rw [zaa b0]; rfl
 have d1 : W.cell? ⟨N, 1, none⟩ = some (.string T) := by rw [zaa b0]; rfl
 have HW : Hid (w.alloc (.cells #[.string S, .string T] 108) = W) := hW
 have HN : Hid (w.heap.size = N) := hN
 clear hW hN
 have rq := zco S T hS (fun k => k < W.heap.size) W (fun _ h => h)
 have e1 : zbg ⟨S.data.toList, T.data.toList⟩ = q := by rw [<- hq, ByteArray.toList_eq, ByteArray.toList_eq]
 rw [e1] at rq
 have HF : Hid (Zc7 (M.nd i).attrs S.toList z) := hf
 have HY : Hid (RY K J W p M R G A) := hY
 have HG : Hid (A.na = some ⟨g, 0, none⟩) := hg
 have HKW : Hid (Kept K w W) := kW.mono h.lt
 have HKWm : Hid (∀ w', Kept (fun k => k < W.heap.size) W w' -> Kept K w w') := fun w' hk => (kW.mono h.lt).trans (hk.mono HY.out.lt)
 obtain ⟨aa, haa⟩ : ∃ aa, A.aa i = aa := ⟨_, rfl⟩
 obtain ⟨ac, hac⟩ : ∃ ac, A.ac i = ac := ⟨_, rfl⟩
 obtain ⟨l, hle⟩ : ∃ l, (M.nd i).attrs = l := ⟨_, rfl⟩
 obtain ⟨n, hne⟩ : ∃ n, l.length = n := ⟨_, rfl⟩
 rw [hle, haa, hac, hne] at c3
 have HAA : Hid (A.aa i = aa) := haa
 have HAC : Hid (A.ac i = ac) := hac
 have HE : Hid ((M.nd i).attrs = l) := hle
 have HL : Hid (l.length = n) := hne
 have hl' : n <= 1000000 := by rw [<- hne, <- hle]; exact hl
 have hnN : N < W.heap.size := zad b0
 rw [hle, hne] at hb
 clear h hq hf hkd hl hY hg kW haa hac hle hne e1 b0
 go_enter Tryz.func98, Tryz.ntmps98
 go_wp2_with (go_at_call 173; refine re.mono ?_; rintro e1 w3 ⟨rfl, hw3⟩; replace hw3 := hw3.symm; subst hw3)
 rw [HW.out, HN.out]
 refine rf.mono ?_
 rintro e1 w3 ⟨rfl, hw3⟩
 replace hw3 := hw3.symm
 subst hw3
 go_wp2_with fail
 refine rq.mono ?_
 rintro e1 w4 ⟨rfl, hk4⟩
 have c1w : w4.cell? ⟨p, 1, none⟩ = some (.slice (some ⟨g, 0, none⟩) M.n A.nc) := (hk4.cell (p := ⟨p, 1, none⟩) hpl).trans c1
 have c3w : w4.cell? ⟨g, i * 14 + 3, none⟩ = some (.slice aa n ac) := (hk4.cell (p := ⟨g, i * 14 + 3, none⟩) hgl).trans c3
 have d0w : w4.cell? ⟨N, 0, none⟩ = some (.string S) := (hk4.cell (p := ⟨N, 0, none⟩) hnN).trans d0
 have d1w : w4.cell? ⟨N, 1, none⟩ = some (.string T) := (hk4.cell (p := ⟨N, 1, none⟩) hnN).trans d1
 have HK4 : Hid (Kept (fun k => k < W.heap.size) W w4) := hk4
 clear re rf rq c1 c3 d0 d1 hk4
 subst ht
 have hat4 : Zag (fun k => k < w4.heap.size) w4 aa l := by
  have := (HY.out.ats i hi).to (F' := fun k => k < W.heap.size) (w' := W) (fun _ h => h.1) (fun _ _ => rfl)
  rw [HAA.out, HE.out] at this
  exact this.kept HK4.out fun k h => ltl h HK4.out.size
 have ra := zde l aa n ac HL.out (by omega) w4 hat4
 have hcap : n <= ac := by
  have := HY.out.acl i hi
  rw [HAC.out, HE.out, HL.out] at this
  exact this
 have hpl4 : p < w4.heap.size := ltl hpl HK4.out.size
 have hgl4 : g < w4.heap.size := ltl hgl HK4.out.size
 have hnN4 : N < w4.heap.size := ltl hnN HK4.out.size
 have HFIN : Hid (∀ (w6 : World) (ao' : Option Addr) (m cap' : Nat) (r : List Atr), r.length = m -> r = setA l ⟨S.toList, T.toList⟩ -> Zac (fun k => k < w4.heap.size) w6 108 2 ao' m cap' (zab r) -> Kept (fun k => k < w4.heap.size) w4 w6 ->
   w6.cell? ⟨p, 1, none⟩ = some (.slice (some ⟨g, 0, none⟩) M.n A.nc) /\ w6.cell? ⟨g, i * 14 + 3, none⟩ = some (.slice aa n ac) /\ w6.frozen? ⟨g, i * 14 + 3, none⟩ = false /\
   Hid (Kept K w (w6.setCell ⟨g, i * 14 + 3, none⟩ (.slice ao' m cap')) /\ RX K J (w6.setCell ⟨g, i * 14 + 3, none⟩ (.slice ao' m cap')) p (M.setN i { M.nd i with attrs := setA (M.nd i).attrs ⟨S.toList, T.toList⟩ }) R G)) := fun w6 ao' m cap' r hm hr hO hK => by
  have hY4 := HY.out.kept HK4.out
  refine ⟨(hK.cell (p := ⟨p, 1, none⟩) hpl4).trans c1w, (hK.cell (p := ⟨g, i * 14 + 3, none⟩) hgl4).trans c3w, (hK.frozen (p := ⟨g, i * 14 + 3, none⟩) hgl4).trans (hY4.fg HG.out _), ?_⟩
  have ha : Zag (fun x => w4.heap.size <= x /\ x < w6.heap.size) w6 ao' r := hO.atsAt fun x hx => ⟨Nat.le_of_not_lt (Zac.out hO hx).1, (Zac.out hO hx).2⟩
  obtain ⟨hY5, hK5⟩ := hY4.setAts hK HG.out hi r ao' cap' ha (by rw [hm]; exact hO.2.1)
  rw [hm] at hY5 hK5
  have kk : Kept K w (w6.setCell ⟨g, i * 14 + 3, none⟩ (.slice ao' m cap')) := ((HKWm.out _ HK4.out).trans (hK.mono hY4.lt)).trans hK5
  have rx : RX K J (w6.setCell ⟨g, i * 14 + 3, none⟩ (.slice ao' m cap')) p (M.setN i { M.nd i with attrs := setA (M.nd i).attrs ⟨S.toList, T.toList⟩ }) R G := by
   rw [HE.out, <- hr]
   exact ⟨_, hY5⟩
  exact (show Hid _ from ⟨kk, rx⟩)
 have hz := HF.out
 rw [HE.out] at hz
 cases hz with
 | no hno =>
  have hlt := hb rfl
  have e5 : decide ((n : Int) >= 50) = false := decide_eq_false (by omega)
  have HNO : Hid (∀ x ∈ l, x.name ≠ S.toList) := hno
  clear hno hb hat4
  go_wp2_with fail
  refine ra.mono ?_
  rintro e1 w5 ⟨ao, c, rfl, hO, hk5⟩
  have d0x : w5.cell? ⟨N, 0, none⟩ = some (.string S) := (hk5.cell (p := ⟨N, 0, none⟩) hnN4).trans d0w
  have d1x : w5.cell? ⟨N, 1, none⟩ = some (.string T) := (hk5.cell (p := ⟨N, 1, none⟩) hnN4).trans d1w
  obtain ⟨ao', cap', w6, hr, hO6, hK6⟩ := zsm hO (fun k h => ltl h hk5.size) hl' S T
  obtain ⟨x1, x3, x4, HFI⟩ := HFIN.out w6 ao' (n + 1) cap' _ (by rw [List.length_append, HL.out]; rfl) (zg0 l _ HNO.out).symm hO6 (hk5.trans hK6)
  clear hO6 hK6 HFIN ra hO hk5 d0w d1w c1w c3w
  go_wp2_with (at_builtin; refine zak (w' := w6) rfl (.tmp 56) (.tmp 58) 44 44 rfl _ _ (.slice ao' (n + 1) cap') rfl rfl hr ?_)
  go_ret
  exact ⟨rfl, HFI.out.1, HFI.out.2⟩
 | @yes k hk he hah =>
  have e0 : decide ((k : Int) < 0) = false := decide_eq_false (by omega)
  have HHE : Hid (l[k].name = S.toList) := he
  have HAH : Hid (∀ x ∈ l.take k, x.name ≠ S.toList) := hah
  have hkn : k < n := by rw [<- HL.out]; exact hk
  clear he hah hb hat4
  go_wp2_with fail
  refine ra.mono ?_
  rintro e1 w5 ⟨ao, c, rfl, hO, hk5⟩
  have d0x : w5.cell? ⟨N, 0, none⟩ = some (.string S) := (hk5.cell (p := ⟨N, 0, none⟩) hnN4).trans d0w
  have d1x : w5.cell? ⟨N, 1, none⟩ = some (.string T) := (hk5.cell (p := ⟨N, 1, none⟩) hnN4).trans d1w
  obtain ⟨y, rfl, hyk, hyl⟩ := Zac.at0 hO (by omega)
  obtain ⟨y0, y1⟩ := zep l k hk
  obtain ⟨g2, e2, z0⟩ := hO.cell y0
  have e2' : g2 = y := by injection e2 with e2; injection e2 with e2; exact e2.symm
  subst e2'
  obtain ⟨g3, e3, z1⟩ := hO.cell y1
  have e3' : g3 = g2 := by injection e3 with e3; injection e3 with e3; exact e3.symm
  subst e3'
  have f0 := Zac.froz hO (k * 2)
  have f1 := Zac.froz hO (k * 2 + 1)
  have hO6 := hO.setA k ⟨S.toList, T.toList⟩ hk
  have eS : sv S.toList = .string S := by rw [ByteArray.toList_eq]
  have eT : sv T.toList = .string T := by rw [ByteArray.toList_eq]
  dsimp only at hO6
  rw [eS, eT] at hO6
  have hK6 : Kept (fun k => k < w4.heap.size) w4 ((w5.setCell ⟨g3, k * 2, none⟩ (.string S)).setCell ⟨g3, k * 2 + 1, none⟩ (.string T)) := (hk5.setCell (p := ⟨g3, k * 2, none⟩) hyk _).setCell (p := ⟨g3, k * 2 + 1, none⟩) hyk _
  obtain ⟨x1, x3, x4, HFI⟩ := HFIN.out _ _ n c _ (by rw [List.length_set, HL.out]) (zg4 l _ k hk HHE.out HAH.out).symm hO6 hK6
  unfold sv at z0 z1
  clear hO6 hK6 HFIN ra hO hk5 d0w d1w c1w c3w y0 y1 e2 e3 eS eT
  go_wp2
  go_ret
  exact ⟨rfl, HFI.out.1, HFI.out.2⟩
end
section
open Go.RowKit Go.Sort
inductive Zhs (n : Nat) (G : Nat -> List Nat) (x : Int) : Int -> Prop
 | yes {s : Nat} (hs : s < n) : x ∈ (G s).map (fun k : Nat => (k : Int)) -> (∀ t, t < s -> x ∉ (G t).map (fun k : Nat => (k : Int))) -> Zhs n G x (s : Int)
 | no : (∀ t, t < n -> x ∉ (G t).map (fun k : Nat => (k : Int))) -> Zhs n G x (-1)
theorem zfr (K : Nat -> Prop) (p : Nat) (M : Dm) (R G : Nat -> List Nat) (x : Int) (w : World) (h : RX K J w p M R G) (hn : M.n <= 1000000) (hl : ∀ i, i < M.n -> (G i).length <= 1000000) :
  Calls Tryz.prog 77 #[.pointer (some ⟨p, 0, none⟩), .int .i64 x] w fun e w' => ∃ z, Zhs M.n G x z /\ e = .returned (.int .i64 z) /\ w' = w := by
 obtain ⟨A, hY⟩ := h
 have c2 := hY.c2
 have HY : Hid (RY K J w p M R G A) := hY
 have HL : Hid (∀ i, i < M.n -> (G i).length <= 1000000) := hl
 obtain ⟨n, hne⟩ : ∃ n, M.n = n := ⟨_, rfl⟩
 have HN : Hid (M.n = n) := hne
 obtain ⟨qa, hqa⟩ : ∃ qa, A.qa = qa := ⟨_, rfl⟩
 have HQ : Hid (A.qa = qa) := hqa
 rw [hne, hqa] at c2
 rw [hne] at hn ⊢
 clear hY hl hne hqa
 go_enter Tryz.func77, Tryz.ntmps77
 go_upto_region 2 with fail
 go_loopg [5] n (fun gh v wr => ∃ k : Nat, gh = n - k /\ k <= n /\ v = .int .i64 (k : Int) /\ (∀ t, t < k -> x ∉ (G t).map (fun k : Nat => (k : Int))) /\ wr = w)
 case atStart => exact ⟨0, rfl, Nat.zero_le _, rfl, fun t ht => absurd ht (Nat.not_lt_zero _), rfl⟩
 case round =>
  obtain ⟨s, hgk, hs, rfl, hno, rfl⟩ := hrel
  have HNO : Hid (∀ t, t < s -> x ∉ (G t).map (fun k : Nat => (k : Int))) := hno
  clear hno
  by_cases hlt : s < n
  ·have hsM : s < M.n := by rw [HN.out]; exact hlt
   obtain ⟨q, hq, -, -, hql⟩ := HY.out.qat (by omega)
   have hq' : qa = some ⟨q, 0, none⟩ := by rw [<- HQ.out]; exact hq
   subst hq'
   have q0 := HY.out.qcell hq hsM
   have ro := HY.out.gown s hsM
   have hll := HL.out s hsM
   obtain ⟨l, hle⟩ : ∃ l, G s = l := ⟨_, rfl⟩
   obtain ⟨ln, hlne⟩ : ∃ ln, l.length = ln := ⟨_, rfl⟩
   obtain ⟨ga, hga⟩ : ∃ ga, A.ga s = ga := ⟨_, rfl⟩
   obtain ⟨gc, hgc⟩ : ∃ gc, A.gc s = gc := ⟨_, rfl⟩
   have hI : Zan (fun k => k < wr.heap.size) wr (A.ga s) (G s) := ro.intsAt fun x hx => (Zac.out ro hx).2
   rw [hle, hlne, hga, hgc] at q0
   rw [hle, hlne] at hll
   rw [hle, hga] at hI
   have HI : Hid (Zan (fun k => k < wr.heap.size) wr ga l) := hI
   have HLE : Hid (G s = l) := hle
   have HLN : Hid (l.length = ln) := hlne
   clear ro hle hlne hga hgc hI hq
   go_upto_region 5 with fail
   go_loopg [6] ln (fun gh v wr' => ∃ k : Nat, gh = ln - k /\ k <= ln /\ v = .int .i64 (k : Int) /\ (∀ y ∈ l.take k, (y : Int) ≠ x) /\ wr' = wr)
   case atStart => exact ⟨0, rfl, Nat.zero_le _, rfl, fun y hy => (by cases hy), rfl⟩
   case round =>
    obtain ⟨k, hgk2, hk, rfl, hnk, rfl⟩ := hrel
    have HNK : Hid (∀ y ∈ l.take k, (y : Int) ≠ x) := hnk
    clear hnk
    by_cases hkl : k < ln
    ·have hkl' : k < l.length := by rw [HLN.out]; exact hkl
     obtain ⟨g1, o1, rfl, -, d0⟩ := HI.out k hkl'
     obtain ⟨y, hy⟩ : ∃ y, l[k] = y := ⟨_, rfl⟩
     rw [hy] at d0
     have HYY : Hid (l[k] = y) := hy
     clear hy
     by_cases e : (y : Int) = x
     ·have e1 : ((y : Int) == x) = true := by simpa using e
      have HEE : Hid ((y : Int) = x) := e
      clear e
      go_wp2
      go_ret
      refine ⟨_, .yes hlt ?_ HNO.out, rfl, rfl⟩
      rw [HLE.out]
      exact List.mem_map.2 ⟨y, by rw [<- HYY.out]; exact List.getElem_mem _, HEE.out⟩
     ·have e1 : ((y : Int) == x) = false := by simpa using e
      have HEE : Hid ((y : Int) ≠ x) := e
      clear e
      go_wp2
      go_roundg (ln - (k + 1))
      case rel =>
       refine ⟨k + 1, rfl, by omega, by go_num, fun y' hy' => ?_, rfl⟩
       rw [List.take_succ_eq_append_getElem hkl'] at hy'
       rcases List.mem_append.1 hy' with hy' | hy'
       ·exact HNK.out y' hy'
       ·rw [List.mem_singleton.1 hy', HYY.out]; exact HEE.out
      case measure => omega
    ·have hkn : ln = k := by omega
     subst hkn
     go_wp2
     go_roundg (n - (s + 1))
     case rel =>
      refine ⟨s + 1, rfl, by omega, by go_num, fun t ht => ?_, rfl⟩
      by_cases c : t = s
      ·subst c
       rw [HLE.out]
       intro hm
       obtain ⟨y, hy, e⟩ := List.mem_map.1 hm
       exact HNK.out y (by rw [List.take_of_length_le (by rw [HLN.out]; exact Nat.le_refl _)]; exact hy) e
      ·exact HNO.out t (by omega)
     case measure => omega
  ·have hsn : n = s := by omega
   subst hsn
   go_wp2
   go_ret
   exact ⟨_, .no HNO.out, rfl, rfl⟩
end
section
open Go.RowKit Go.Sort
theorem zli (K : Nat -> Prop) (p : Nat) (M : Dm) (R G : Nat -> List Nat) (up i bef : Int) (w : World) (h : RX K J w p M R G)
  (hno : (up < 0 \/ (M.n : Int) <= up) \/ (i < 0 \/ (M.n : Int) <= i) \/ (bef ≠ -1 /\ (bef < 0 \/ (M.n : Int) <= bef))) :
  Calls Tryz.prog 94 #[.pointer (some ⟨p, 0, none⟩), .int .i64 up, .int .i64 i, .int .i64 bef] w fun e w' => e = .returned (.int .i64 80) /\ w' = w := by
 have tu := zae K p M R G up w h
 have ti := zae K p M R G i w h
 have tb := zae K p M R G bef w h
 obtain ⟨bu, hbu⟩ : ∃ b, (decide (0 <= up) && decide (up < (M.n : Int))) = b := ⟨_, rfl⟩
 obtain ⟨bi, hbi⟩ : ∃ b, (decide (0 <= i) && decide (i < (M.n : Int))) = b := ⟨_, rfl⟩
 obtain ⟨bb, hbb⟩ : ∃ b, (decide (0 <= bef) && decide (bef < (M.n : Int))) = b := ⟨_, rfl⟩
 rw [hbu] at tu
 rw [hbi] at ti
 rw [hbb] at tb
 have hno' : bu = false \/ bi = false \/ (bef ≠ -1 /\ bb = false) := by
  rcases hno with c | c | ⟨c1, c⟩
  ·exact .inl (hbu.symm.trans (zbv c))
  ·exact .inr (.inl (hbi.symm.trans (zbv c)))
  ·exact .inr (.inr ⟨c1, hbb.symm.trans (zbv c)⟩)
 clear h hbu hbi hbb hno
 cases bu with
 | false =>
  clear ti tb hno'
  go_enter Tryz.func94, Tryz.ntmps94
  go_wp2_with fail
  refine tu.mono ?_
  rintro e1 w3 ⟨rfl, hw3⟩
  replace hw3 := hw3.symm
  subst hw3
  go_wp2
  go_ret
  exact ⟨rfl, rfl⟩
 | true =>
  cases bi with
  | false =>
   clear tb hno'
   go_enter Tryz.func94, Tryz.ntmps94
   go_wp2_with fail
   refine tu.mono ?_
   rintro e1 w3 ⟨rfl, hw3⟩
   replace hw3 := hw3.symm
   subst hw3
   go_wp2_with fail
   refine ti.mono ?_
   rintro e1 w3 ⟨rfl, hw3⟩
   replace hw3 := hw3.symm
   subst hw3
   go_wp2
   go_ret
   exact ⟨rfl, rfl⟩
  | true =>
   obtain ⟨b1, rfl⟩ : bef ≠ -1 /\ bb = false := by
    rcases hno' with c | c | c
    ·cases c
    ·cases c
    ·exact c
   have b2 : (bef != -1) = true := by simpa using b1
   clear hno'
   go_enter Tryz.func94, Tryz.ntmps94
   go_wp2_with fail
   refine tu.mono ?_
   rintro e1 w3 ⟨rfl, hw3⟩
   replace hw3 := hw3.symm
   subst hw3
   go_wp2_with fail
   refine ti.mono ?_
   rintro e1 w3 ⟨rfl, hw3⟩
   replace hw3 := hw3.symm
   subst hw3
   go_wp2_with fail
   refine tb.mono ?_
   rintro e1 w3 ⟨rfl, hw3⟩
   replace hw3 := hw3.symm
   subst hw3
   go_wp2
   go_ret
   exact ⟨rfl, rfl⟩
end
section
open Go.RowKit Go.Sort
theorem znp (K : Nat -> Prop) (p up i : Nat) (M : Dm) (R G : Nat -> List Nat) (rk : Nat -> Nat) (w : World) (h : RX K J w p M R G) (ha : Acy M rk) (hu : up < M.n) (hi : i < M.n) (hn : M.n <= 1000000) (hge : ∀ k, k < M.n -> (M.pl k).up = -1 \/ 0 <= (M.pl k).up) (fb : Bool) (hfb : fb = true ↔ RFits M up i) (hf : fb = false) :
  Calls Tryz.prog 94 #[.pointer (some ⟨p, 0, none⟩), .int .i64 (up : Int), .int .i64 (i : Int), .int .i64 (-1)] w fun e w' => e = .returned (.int .i64 81) /\ RX K J w' p M R G /\ Kept K w w' := by
 have tu := zae K p M R G (up : Int) w h
 rw [zal hu] at tu
 have ti := zae K p M R G (i : Int) w h
 rw [zal hi] at ti
 have rf : Calls Tryz.prog 168 #[.pointer (some ⟨p, 0, none⟩), .int .i64 (up : Int), .int .i64 (i : Int)] w fun e w' => e = .returned (.bool fb) /\ Kept (fun k => k < w.heap.size) w w' :=
  (zcd K p up i M R G rk w h ha hu hi hn hge _ rfl _ rfl).mono fun e w' ⟨hy, hk⟩ => by
   obtain ⟨b, he, hb⟩ := hy
   exact ⟨by rw [he, Bool.eq_iff_iff.2 (hb.trans hfb.symm)], hk⟩
 have HM : Hid (∀ w', Kept (fun k => k < w.heap.size) w w' -> RX K J w' p M R G /\ Kept K w w') := fun w' hk => ⟨h.kept hk, hk.mono h.lt⟩
 subst hf
 clear h ha hge hfb
 go_enter Tryz.func94, Tryz.ntmps94
 go_wp2_with fail
 refine tu.mono ?_
 rintro e1 w3 ⟨rfl, hw3⟩
 replace hw3 := hw3.symm
 subst hw3
 go_wp2_with fail
 refine ti.mono ?_
 rintro e1 w3 ⟨rfl, hw3⟩
 replace hw3 := hw3.symm
 subst hw3
 go_wp2_with fail
 refine rf.mono ?_
 rintro e1 w4 ⟨rfl, hk4⟩
 obtain ⟨hX4, hK4⟩ := HM.out w4 hk4
 have HX4 : Hid (RX K J w4 p M R G) := hX4
 have HK4 : Hid (Kept K w w4) := hK4
 clear hX4 hK4 rf tu ti HM hk4
 go_wp2
 go_ret
 exact ⟨rfl, HX4.out, HK4.out⟩
theorem zm8 (K : Nat -> Prop) (p up i : Nat) (M : Dm) (R G : Nat -> List Nat) (rk : Nat -> Nat) (w : World) (h : RX K J w p M R G) (ha : Acy M rk) (hu : up < M.n) (hi : i < M.n) (hn : M.n <= 1000000) (hge : ∀ k, k < M.n -> (M.pl k).up = -1 \/ 0 <= (M.pl k).up) (fb : Bool) (hfb : fb = true ↔ RFits M up i) (hf : fb = false) (b : Nat) (hb : b < M.n) :
  Calls Tryz.prog 94 #[.pointer (some ⟨p, 0, none⟩), .int .i64 (up : Int), .int .i64 (i : Int), .int .i64 (b : Int)] w fun e w' => e = .returned (.int .i64 81) /\ RX K J w' p M R G /\ Kept K w w' := by
 have tu := zae K p M R G (up : Int) w h
 rw [zal hu] at tu
 have ti := zae K p M R G (i : Int) w h
 rw [zal hi] at ti
 have rf : Calls Tryz.prog 168 #[.pointer (some ⟨p, 0, none⟩), .int .i64 (up : Int), .int .i64 (i : Int)] w fun e w' => e = .returned (.bool fb) /\ Kept (fun k => k < w.heap.size) w w' :=
  (zcd K p up i M R G rk w h ha hu hi hn hge _ rfl _ rfl).mono fun e w' ⟨hy, hk⟩ => by
   obtain ⟨b, he, hb⟩ := hy
   exact ⟨by rw [he, Bool.eq_iff_iff.2 (hb.trans hfb.symm)], hk⟩
 have HM : Hid (∀ w', Kept (fun k => k < w.heap.size) w w' -> RX K J w' p M R G /\ Kept K w w') := fun w' hk => ⟨h.kept hk, hk.mono h.lt⟩
 have tb := zae K p M R G (b : Int) w h
 rw [zal hb] at tb
 have b2 : ((b : Int) != -1) = true := by first | (simp; done) | (simp; omega)
 subst hf
 clear h ha hge hfb
 go_enter Tryz.func94, Tryz.ntmps94
 go_wp2_with fail
 refine tu.mono ?_
 rintro e1 w3 ⟨rfl, hw3⟩
 replace hw3 := hw3.symm
 subst hw3
 go_wp2_with fail
 refine ti.mono ?_
 rintro e1 w3 ⟨rfl, hw3⟩
 replace hw3 := hw3.symm
 subst hw3
 go_wp2_with fail
 refine tb.mono ?_
 rintro e1 w3 ⟨rfl, hw3⟩
 replace hw3 := hw3.symm
 subst hw3
 go_wp2_with fail
 refine rf.mono ?_
 rintro e1 w4 ⟨rfl, hk4⟩
 obtain ⟨hX4, hK4⟩ := HM.out w4 hk4
 have HX4 : Hid (RX K J w4 p M R G) := hX4
 have HK4 : Hid (Kept K w w4) := hK4
 clear hX4 hK4 rf tu ti HM hk4 tb
 go_wp2
 go_ret
 exact ⟨rfl, HX4.out, HK4.out⟩
theorem zl3 (K : Nat -> Prop) (p up i : Nat) (M : Dm) (R G : Nat -> List Nat) (rk : Nat -> Nat) (w : World) (h : RX K J w p M R G) (ha : Acy M rk) (hu : up < M.n) (hi : i < M.n) (hn : M.n <= 1000000) (hge : ∀ k, k < M.n -> (M.pl k).up = -1 \/ 0 <= (M.pl k).up) (fb : Bool) (hfb : fb = true ↔ RFits M up i) (hf : fb = true) (b : Nat) (hb : b < M.n) (hne : (M.pl b).up ≠ (up : Int)) :
  Calls Tryz.prog 94 #[.pointer (some ⟨p, 0, none⟩), .int .i64 (up : Int), .int .i64 (i : Int), .int .i64 (b : Int)] w fun e w' => e = .returned (.int .i64 81) /\ RX K J w' p M R G /\ Kept K w w' := by
 have tu := zae K p M R G (up : Int) w h
 rw [zal hu] at tu
 have ti := zae K p M R G (i : Int) w h
 rw [zal hi] at ti
 have rf : Calls Tryz.prog 168 #[.pointer (some ⟨p, 0, none⟩), .int .i64 (up : Int), .int .i64 (i : Int)] w fun e w' => e = .returned (.bool fb) /\ Kept (fun k => k < w.heap.size) w w' :=
  (zcd K p up i M R G rk w h ha hu hi hn hge _ rfl _ rfl).mono fun e w' ⟨hy, hk⟩ => by
   obtain ⟨b, he, hb⟩ := hy
   exact ⟨by rw [he, Bool.eq_iff_iff.2 (hb.trans hfb.symm)], hk⟩
 have HM : Hid (∀ w', Kept (fun k => k < w.heap.size) w w' -> RX K J w' p M R G /\ Kept K w w') := fun w' hk => ⟨h.kept hk, hk.mono h.lt⟩
 have tb := zae K p M R G (b : Int) w h
 rw [zal hb] at tb
 have b2 : ((b : Int) != -1) = true := by first | (simp; done) | (simp; omega)
 subst hf
 clear h ha hge hfb
 go_enter Tryz.func94, Tryz.ntmps94
 go_wp2_with fail
 refine tu.mono ?_
 rintro e1 w3 ⟨rfl, hw3⟩
 replace hw3 := hw3.symm
 subst hw3
 go_wp2_with fail
 refine ti.mono ?_
 rintro e1 w3 ⟨rfl, hw3⟩
 replace hw3 := hw3.symm
 subst hw3
 go_wp2_with fail
 refine tb.mono ?_
 rintro e1 w3 ⟨rfl, hw3⟩
 replace hw3 := hw3.symm
 subst hw3
 go_wp2_with fail
 refine rf.mono ?_
 rintro e1 w4 ⟨rfl, hk4⟩
 obtain ⟨hX4, hK4⟩ := HM.out w4 hk4
 have HX4 : Hid (RX K J w4 p M R G) := hX4
 have HK4 : Hid (Kept K w w4) := hK4
 obtain ⟨A, hY4⟩ := hX4
 obtain ⟨g, hg, -, -, hgl⟩ := hY4.nat (by omega)
 have c1 := hY4.c1
 rw [hg] at c1
 have c4 : w4.cell? ⟨g, b * 14 + 4, none⟩ = some (.int .i64 (M.pl b).up) := hY4.cell hg hb 4 _ rfl
 obtain ⟨bu, hbu⟩ : ∃ bu, (M.pl b).up = bu := ⟨_, rfl⟩
 rw [hbu] at c4 hne
 have b3 : (bu != (up : Int)) = true := by simpa using hne
 clear hY4 hg hK4 rf tu ti HM hk4 tb hbu hne
 go_wp2
 go_ret
 exact ⟨rfl, HX4.out, HK4.out⟩
end
section
open Go.RowKit Go.Sort
theorem zmu (K : Nat -> Prop) (p up i : Nat) (M : Dm) (R G : Nat -> List Nat) (rk : Nat -> Nat) (w : World) (h : RX K J w p M R G) (ha : Acy M rk) (hu : up < M.n) (hi : i < M.n) (hn : M.n <= 1000000) (hge : ∀ k, k < M.n -> (M.pl k).up = -1 \/ 0 <= (M.pl k).up) (fb : Bool) (hfb : fb = true ↔ RFits M up i) (hf : fb = true) (hkn : (M.nd i).kind ≠ 4) (hup : (M.pl i).up = -1 \/ ∃ u : Nat, u < M.n /\ (M.pl i).up = (u : Int)) (hrl : ∀ u, u < M.n -> (R u).length <= 1000000) :
  Calls Tryz.prog 94 #[.pointer (some ⟨p, 0, none⟩), .int .i64 (up : Int), .int .i64 (i : Int), .int .i64 (-1)] w fun e w' => e = .returned (.int .i64 0) /\ RX K J w' p (zbu M up i) (zbm M R up i (-1)) G /\ Kept K w w' := by
 have tu := zae K p M R G (up : Int) w h
 rw [zal hu] at tu
 have ti := zae K p M R G (i : Int) w h
 rw [zal hi] at ti
 have rf : Calls Tryz.prog 168 #[.pointer (some ⟨p, 0, none⟩), .int .i64 (up : Int), .int .i64 (i : Int)] w fun e w' => e = .returned (.bool fb) /\ Kept (fun k => k < w.heap.size) w w' :=
  (zcd K p up i M R G rk w h ha hu hi hn hge _ rfl _ rfl).mono fun e w' ⟨hy, hk⟩ => by
   obtain ⟨b, he, hb⟩ := hy
   exact ⟨by rw [he, Bool.eq_iff_iff.2 (hb.trans hfb.symm)], hk⟩
 have HM : Hid (∀ w', Kept (fun k => k < w.heap.size) w w' -> RX K J w' p M R G /\ Kept K w w') := fun w' hk => ⟨h.kept hk, hk.mono h.lt⟩
 subst hf
 clear h ha hge hfb
 go_enter Tryz.func94, Tryz.ntmps94
 go_wp2_with fail
 refine tu.mono ?_
 rintro e1 w3 ⟨rfl, hw3⟩
 replace hw3 := hw3.symm
 subst hw3
 go_wp2_with fail
 refine ti.mono ?_
 rintro e1 w3 ⟨rfl, hw3⟩
 replace hw3 := hw3.symm
 subst hw3
 go_wp2_with fail
 refine rf.mono ?_
 rintro e1 w4 ⟨rfl, hk4⟩
 obtain ⟨hX4, hK4⟩ := HM.out w4 hk4
 have HX4 : Hid (RX K J w4 p M R G) := hX4
 have HK4 : Hid (Kept K w w4) := hK4
 have rp := zd7 K p up i (-1) M R G w4 hX4 hu hi hn hup hrl (by omega) (by omega)
 obtain ⟨A, hY4⟩ := hX4
 obtain ⟨g, hg, -, -, hgl⟩ := hY4.nat (by omega)
 have c1 := hY4.c1
 rw [hg] at c1
 have c0 : w4.cell? ⟨g, i * 14, none⟩ = some (.int .u8 ((M.nd i).kind : Int)) := hY4.cell hg hi 0 _ rfl
 obtain ⟨kd, hkd⟩ : ∃ kd, (M.nd i).kind = kd := ⟨_, rfl⟩
 rw [hkd] at c0 hkn
 have q4 : ((kd : Int) == 4) = false := by simp; omega
 have b3 : ((-1 : Int) == (i : Int)) = false := by first | (simp; done) | (simp; omega)
 clear hY4 hg hK4 rf tu ti HM hk4 hkd hkn hup hrl
 go_wp2_with fail
 refine rp.mono ?_
 rintro e1 w5 ⟨rfl, hX5, hK5⟩
 have HX5 : Hid (RX K J w5 p (zbu M up i) (zbm M R up i (-1)) G) := hX5
 have HK5 : Hid (Kept K w w5) := HK4.out.trans hK5
 clear hX5 hK5 rp
 go_wp2
 go_ret
 exact ⟨rfl, HX5.out, HK5.out⟩
theorem zlj (K : Nat -> Prop) (p up i : Nat) (M : Dm) (R G : Nat -> List Nat) (rk : Nat -> Nat) (w : World) (h : RX K J w p M R G) (ha : Acy M rk) (hu : up < M.n) (hi : i < M.n) (hn : M.n <= 1000000) (hge : ∀ k, k < M.n -> (M.pl k).up = -1 \/ 0 <= (M.pl k).up) (fb : Bool) (hfb : fb = true ↔ RFits M up i) (hf : fb = true) (hkn : (M.nd i).kind ≠ 4) (hup : (M.pl i).up = -1 \/ ∃ u : Nat, u < M.n /\ (M.pl i).up = (u : Int)) (hrl : ∀ u, u < M.n -> (R u).length <= 1000000) (b : Nat) (hb : b < M.n) (hbu : (M.pl b).up = (up : Int)) (hbi : b ≠ i) :
  Calls Tryz.prog 94 #[.pointer (some ⟨p, 0, none⟩), .int .i64 (up : Int), .int .i64 (i : Int), .int .i64 (b : Int)] w fun e w' => e = .returned (.int .i64 0) /\ RX K J w' p (zbu M up i) (zbm M R up i (b : Int)) G /\ Kept K w w' := by
 have tu := zae K p M R G (up : Int) w h
 rw [zal hu] at tu
 have ti := zae K p M R G (i : Int) w h
 rw [zal hi] at ti
 have rf : Calls Tryz.prog 168 #[.pointer (some ⟨p, 0, none⟩), .int .i64 (up : Int), .int .i64 (i : Int)] w fun e w' => e = .returned (.bool fb) /\ Kept (fun k => k < w.heap.size) w w' :=
  (zcd K p up i M R G rk w h ha hu hi hn hge _ rfl _ rfl).mono fun e w' ⟨hy, hk⟩ => by
   obtain ⟨b, he, hb⟩ := hy
   exact ⟨by rw [he, Bool.eq_iff_iff.2 (hb.trans hfb.symm)], hk⟩
 have HM : Hid (∀ w', Kept (fun k => k < w.heap.size) w w' -> RX K J w' p M R G /\ Kept K w w') := fun w' hk => ⟨h.kept hk, hk.mono h.lt⟩
 have tb := zae K p M R G (b : Int) w h
 rw [zal hb] at tb
 have b2 : ((b : Int) != -1) = true := by first | (simp; done) | (simp; omega)
 subst hf
 clear h ha hge hfb
 go_enter Tryz.func94, Tryz.ntmps94
 go_wp2_with fail
 refine tu.mono ?_
 rintro e1 w3 ⟨rfl, hw3⟩
 replace hw3 := hw3.symm
 subst hw3
 go_wp2_with fail
 refine ti.mono ?_
 rintro e1 w3 ⟨rfl, hw3⟩
 replace hw3 := hw3.symm
 subst hw3
 go_wp2_with fail
 refine tb.mono ?_
 rintro e1 w3 ⟨rfl, hw3⟩
 replace hw3 := hw3.symm
 subst hw3
 go_wp2_with fail
 refine rf.mono ?_
 rintro e1 w4 ⟨rfl, hk4⟩
 obtain ⟨hX4, hK4⟩ := HM.out w4 hk4
 have HX4 : Hid (RX K J w4 p M R G) := hX4
 have HK4 : Hid (Kept K w w4) := hK4
 have rp := zd7 K p up i (b : Int) M R G w4 hX4 hu hi hn hup hrl (by omega) (by omega)
 obtain ⟨A, hY4⟩ := hX4
 obtain ⟨g, hg, -, -, hgl⟩ := hY4.nat (by omega)
 have c1 := hY4.c1
 rw [hg] at c1
 have c0 : w4.cell? ⟨g, i * 14, none⟩ = some (.int .u8 ((M.nd i).kind : Int)) := hY4.cell hg hi 0 _ rfl
 obtain ⟨kd, hkd⟩ : ∃ kd, (M.nd i).kind = kd := ⟨_, rfl⟩
 rw [hkd] at c0 hkn
 have q4 : ((kd : Int) == 4) = false := by simp; omega
 have c4 : w4.cell? ⟨g, b * 14 + 4, none⟩ = some (.int .i64 (M.pl b).up) := hY4.cell hg hb 4 _ rfl
 rw [hbu] at c4
 have b3 : ((b : Int) == (i : Int)) = false := by simp; omega
 clear hY4 hg hK4 rf tu ti tb HM hk4 hkd hkn hup hrl hbu hbi
 go_wp2_with fail
 refine rp.mono ?_
 rintro e1 w5 ⟨rfl, hX5, hK5⟩
 have HX5 : Hid (RX K J w5 p (zbu M up i) (zbm M R up i (b : Int)) G) := hX5
 have HK5 : Hid (Kept K w w5) := HK4.out.trans hK5
 clear hX5 hK5 rp
 go_wp2
 go_ret
 exact ⟨rfl, HX5.out, HK5.out⟩
theorem zla (K : Nat -> Prop) (p up i : Nat) (M : Dm) (R G : Nat -> List Nat) (rk : Nat -> Nat) (w : World) (h : RX K J w p M R G) (ha : Acy M rk) (hu : up < M.n) (hi : i < M.n) (hn : M.n <= 1000000) (hge : ∀ k, k < M.n -> (M.pl k).up = -1 \/ 0 <= (M.pl k).up) (fb : Bool) (hfb : fb = true ↔ RFits M up i) (hf : fb = true) (hkn : (M.nd i).kind ≠ 4) (hup : (M.pl i).up = -1 \/ ∃ u : Nat, u < M.n /\ (M.pl i).up = (u : Int)) (hrl : ∀ u, u < M.n -> (R u).length <= 1000000) (hbu : (M.pl i).up = (up : Int)) (l r : List Nat) (hR : R up = l ++ i :: r) (hia : i ∉ l) (hr1 : -1 <= hdD r (-1)) (hr2 : hdD r (-1) <= 1000000000) :
  Calls Tryz.prog 94 #[.pointer (some ⟨p, 0, none⟩), .int .i64 (up : Int), .int .i64 (i : Int), .int .i64 (i : Int)] w fun e w' => e = .returned (.int .i64 0) /\ RX K J w' p (zbu M up i) (zbm M R up i (hdD r (-1))) G /\ Kept K w w' := by
 obtain ⟨z, hz⟩ : ∃ z, hdD r (-1) = z := ⟨_, rfl⟩
 rw [hz] at hr1 hr2 ⊢
 have tu := zae K p M R G (up : Int) w h
 rw [zal hu] at tu
 have ti := zae K p M R G (i : Int) w h
 rw [zal hi] at ti
 have rf : Calls Tryz.prog 168 #[.pointer (some ⟨p, 0, none⟩), .int .i64 (up : Int), .int .i64 (i : Int)] w fun e w' => e = .returned (.bool fb) /\ Kept (fun k => k < w.heap.size) w w' :=
  (zcd K p up i M R G rk w h ha hu hi hn hge _ rfl _ rfl).mono fun e w' ⟨hy, hk⟩ => by
   obtain ⟨b, he, hb⟩ := hy
   exact ⟨by rw [he, Bool.eq_iff_iff.2 (hb.trans hfb.symm)], hk⟩
 have HM : Hid (∀ w', Kept (fun k => k < w.heap.size) w w' -> RX K J w' p M R G /\ Kept K w w') := fun w' hk => ⟨h.kept hk, hk.mono h.lt⟩
 have tb := zae K p M R G (i : Int) w h
 rw [zal hi] at tb
 have b2 : ((i : Int) != -1) = true := by first | (simp; done) | (simp; omega)
 subst hf
 clear h ha hge hfb
 go_enter Tryz.func94, Tryz.ntmps94
 go_wp2_with fail
 refine tu.mono ?_
 rintro e1 w3 ⟨rfl, hw3⟩
 replace hw3 := hw3.symm
 subst hw3
 go_wp2_with fail
 refine ti.mono ?_
 rintro e1 w3 ⟨rfl, hw3⟩
 replace hw3 := hw3.symm
 subst hw3
 go_wp2_with fail
 refine tb.mono ?_
 rintro e1 w3 ⟨rfl, hw3⟩
 replace hw3 := hw3.symm
 subst hw3
 go_wp2_with fail
 refine rf.mono ?_
 rintro e1 w4 ⟨rfl, hk4⟩
 obtain ⟨hX4, hK4⟩ := HM.out w4 hk4
 have HX4 : Hid (RX K J w4 p M R G) := hX4
 have HK4 : Hid (Kept K w w4) := hK4
 have rn := zlu K p i up M R G w4 hX4 hi hu hbu hn l r hR hia (hrl up hu)
 have HP : Hid (∀ X, Kept (fun k => k < w4.heap.size) w4 X -> Calls Tryz.prog 169 #[.pointer (some ⟨p, 0, none⟩), .int .i64 (up : Int), .int .i64 (i : Int), .int .i64 z] X fun e w' => e = .returned (.tuple #[]) /\ RX K J w' p (zbu M up i) (zbm M R up i z) G /\ Kept K w4 w') := fun X hX => (zd7 K p up i z M R G X (hX4.kept hX) hu hi hn hup hrl hr1 hr2).mono fun e w' ⟨a, b, c⟩ => ⟨a, b, (hX.mono hX4.lt).trans c⟩
 rw [hz] at rn
 obtain ⟨A, hY4⟩ := hX4
 obtain ⟨g, hg, -, -, hgl⟩ := hY4.nat (by omega)
 have c1 := hY4.c1
 rw [hg] at c1
 have c0 : w4.cell? ⟨g, i * 14, none⟩ = some (.int .u8 ((M.nd i).kind : Int)) := hY4.cell hg hi 0 _ rfl
 obtain ⟨kd, hkd⟩ : ∃ kd, (M.nd i).kind = kd := ⟨_, rfl⟩
 rw [hkd] at c0 hkn
 have q4 : ((kd : Int) == 4) = false := by simp; omega
 have c4 : w4.cell? ⟨g, i * 14 + 4, none⟩ = some (.int .i64 (M.pl i).up) := hY4.cell hg hi 4 _ rfl
 rw [hbu] at c4
 clear hY4 hg hK4 rf tu ti tb HM hk4 hkd hkn hup hrl hbu hR hia hz hr1 hr2
 go_wp2_with fail
 refine rn.mono ?_
 rintro e1 w5 ⟨rfl, hk5⟩
 have rp := HP.out w5 hk5
 clear rn hk5
 go_wp2_with fail
 refine rp.mono ?_
 rintro e1 w5 ⟨rfl, hX5, hK5⟩
 have HX5 : Hid (RX K J w5 p (zbu M up i) (zbm M R up i z) G) := hX5
 have HK5 : Hid (Kept K w w5) := HK4.out.trans hK5
 clear hX5 hK5 rp
 go_wp2
 go_ret
 exact ⟨rfl, HX5.out, HK5.out⟩
end
end Go.Proofs.YtfeinppedejlpaaGreat
