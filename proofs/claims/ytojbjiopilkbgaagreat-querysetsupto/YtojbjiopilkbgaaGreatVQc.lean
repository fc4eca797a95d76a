/-
  What is sought in a tree, one by one: what query.within hands back.
-/
import Derived.Test.YtojbjiopilkbgaaGreatVQb
import Derived.Test.YtojbjiopilkbgaaGreatVO1
namespace Go.Proofs.YtojbjiopilkbgaaGreat
set_option maxHeartbeats 8000000
set_option maxRecDepth 100000
open Go.RowKit Go.Shelf Go.BigFrame
set_option linter.unusedVariables false
attribute [local go_sem] Oper.semAt_some
theorem zm2 {q : Nat -> Bool} {T : List Nat} {j : Nat} (hj : j < T.length) : (T.take (j + 1)).filter q = (T.take j).filter q ++ (if q T[j] = true then [T[j]] else []) /\ T.filter q = (T.take (j + 1)).filter q ++ (T.drop (j + 1)).filter q := by
 constructor
 ·rw [List.take_succ_eq_append_getElem hj, List.filter_append]
  by_cases c : q T[j] = true
  ·rw [if_pos c, List.filter_cons_of_pos c]; rfl
  ·rw [if_neg c, List.filter_cons_of_neg c]; rfl
 ·rw [<- List.filter_append, List.take_append_drop]
theorem zc9 {F : Fence} {n : Nat} {P : Program} {ops : Array Oper} {rest : List Oper} {o : Oper} {a : Act} {w : World} {Q : Exit -> Act -> World -> Prop} (hgd : Region.wanted o (yielded ops a.tmps) = true) (ty : TypeId) (x : Operand) (ho : o.op = .load ty x)
  (g : Nat) (hx : a.eval x = .pointer (some ⟨g, 0, none⟩)) (t : TypeId) (cs : Array Value) (fr : Nat × Nat) (d : TypeDesc) (hg : w.heap[g]? = some (.cells cs t fr))
  (hu : P.underlying ty = some d) (hd : (match d with | .struct _ | .array _ _ => true | _ => false) = true) (hi : (P.info? ty).map (·.size) = some cs.size)
  (h : wpListIn F n P ops Q rest (a.put o.dst (.agg cs)) w) : wpListIn F n P ops Q (o :: rest) a w := by
 refine wpListIn_want hgd fun K hK' => ?_
 unfold Oper.wpIn
 refine ⟨?_, ?_⟩
 ·simp [Oper.about, ho]
 ·rw [Oper.semAt_plain F _ _ (by rw [ho]; intro c hc'; cases hc')]
  simp only [execOp, ho, hx, Instr.loadAt, Instr.sureAddr, Sem.run_bind, Sem.run_pure, Result.andThen_ok, run_loadVar_row w g t ty cs fr d hg hu hd hi]
  exact hK' _ _ h
theorem zek (K : Nat -> Prop) (p : Nat) (M : Dm) (R : Nat -> List Nat) (rk : Nat -> Nat) (w0 : World) (hd : DX K w0 p M) (hG : Good M R rk) (hn : M.n <= 100000) (P : Nd -> Bool) (f : Nat) (caps : Array Value) (hs : Sgt w0 M P f caps) (i : Int) (n : Nat) (b0 b1 b2 : Nat)
  (w : World) (hw : Kept (fun k => k < w0.heap.size) w0 w) (Sn : World -> Prop) (Mn : World -> Nat -> Prop) (hM : Mine w0.heap.size Sn Mn) (hS : ∀ W, Below w.heap.size w W -> Sn W)
  (c0 : w0.cell? ⟨b0, 0, none⟩ = some (.pointer (some ⟨p, 0, none⟩))) (c1 : w0.cell? ⟨b1, 0, none⟩ = some (.int .i64 i)) (c2 : w0.cell? ⟨b2, 0, none⟩ = some (.func (.func f) #[] caps)) (l0 : b0 < w0.heap.size) (l1 : b1 < w0.heap.size) (l2 : b2 < w0.heap.size) :
  SeqStopsK Fence.wide n Tryz.prog 167 #[.pointer (some ⟨b0, 0, none⟩), .pointer (some ⟨b1, 0, none⟩), .pointer (some ⟨b2, 0, none⟩)] (fun x : Nat => #[Value.int .i64 (x : Int)]) (KpS w0.heap.size Sn Mn) (fun ys => ys = qL M R P i) (fun pre => pre <+: qL M R P i) (qL M R P i).length w := fun l J Jx W hW hJ _ hY h0 => by
 have hkW : Kept (fun k => k < w0.heap.size) w0 W := hw.trans ((Below.kept hW).mono fun k h => ltl h hw.size)
 have hsW := hS W hW
 have hMO : Zrg w0.heap.size Mn (fun pre W => J pre W /\ Sn W) :=
  ⟨fun pre W k h hm => hM.lo W k h.2 hm, fun pre W W' h hk => ⟨⟨hJ pre W W' none h.1 (zd9 hk) (fun r e => by cases e), (hM.new W W' h.2 hk).1⟩, (hM.new W W' h.2 hk).2⟩⟩
 have hYY : ∀ m pre (x : Nat) W, (J pre W /\ Sn W) -> pre.length < (qL M R P i).length -> YieldAt Fence.wide m Tryz.prog l #[.int .i64 (x : Int)] W fun e W' => (e = .returned (.bool true) /\ (J (pre ++ [x]) W' /\ Sn W') /\ Kp w0.heap.size Mn W W') \/ (e = .returned (.bool false) /\ Jx (pre ++ [x]) W') := fun m pre x W h hl => by
  obtain ⟨fn, tmps, assign, body, e1, hR⟩ := hY pre x W h.1 hl
  refine ⟨fn, tmps, assign, body, e1, ?_⟩
  have hR2 := hR.mono (R' := fun e W' => (e = .returned (.bool true) /\ (J (pre ++ [x]) W' /\ Sn W') /\ Kp w0.heap.size Mn W W') \/ (e = .returned (.bool false) /\ Jx (pre ++ [x]) W')) (fun e W' hh => by
   rcases hh with ⟨q1, q2, q3⟩ | q
   ·exact .inl ⟨q1, ⟨q2, q3.2 h.2⟩, q3.1⟩
   ·exact .inr q)
  exact ⟨hR2.1, fun c cs _ => hR2.2 c cs (room_wide _)⟩
 have rt := zn6 K p M R rk W (hd.kept hkW) hG hn i
 have HCL : Hid (∀ X, Kept (fun k => k < w0.heap.size) w0 X -> X.cell? ⟨b0, 0, none⟩ = some (.pointer (some ⟨p, 0, none⟩)) /\ X.cell? ⟨b1, 0, none⟩ = some (.int .i64 i) /\ X.cell? ⟨b2, 0, none⟩ = some (.func (.func f) #[] caps)) := fun X hX => ⟨(hX.cell (p := ⟨b0, 0, none⟩) l0).trans c0, (hX.cell (p := ⟨b1, 0, none⟩) l1).trans c1, (hX.cell (p := ⟨b2, 0, none⟩) l2).trans c2⟩
 obtain ⟨a0, a1, a2⟩ := HCL.out W hkW
 have hlt : ∀ x ∈ trI M.n R i, x < M.n := fun x hx => by
  by_cases c : i < 0 \/ (M.n : Int) <= i
  ·rw [zee c] at hx; cases hx
  ·obtain ⟨k, hk, rfl⟩ : ∃ k : Nat, k < M.n /\ i = (k : Int) := ⟨i.toNat, by omega, by omega⟩
   rw [zdp hk] at hx
   exact zkx hG.only.falls _ k hk x hx
 obtain ⟨T, hT⟩ : ∃ T, trI M.n R i = T := ⟨_, rfl⟩
 have hQ : qL M R P i = T.filter (qF M P i) := by rw [<- hT]; rfl
 have hTn : T.length <= 100000 := by rw [<- hT]; exact Nat.le_trans (zdm hG.only i) hn
 rw [hT] at rt hlt
 rw [hQ] at hYY ⊢
 obtain ⟨ln, hln⟩ : ∃ ln, T.length = ln := ⟨_, rfl⟩
 have HLN : Hid (T.length = ln) := hln
 have HLT : Hid (∀ x ∈ T, x < M.n) := hlt
 have HMO : Hid (Zrg w0.heap.size Mn (fun pre W => J pre W /\ Sn W)) := hMO
 have HY : Hid _ := hYY
 have HS : Hid (Sgt w0 M P f caps) := hs
 have hent := hs.ent
 have HD : Hid (DX K w0 p M /\ Good M R rk) := ⟨hd, hG⟩
 have HKW : Hid (Kept (fun k => k < w0.heap.size) w0 W) := hkW
 have HJ0 : Hid (J [] W /\ Sn W) := ⟨h0, hsW⟩
 clear hlt hMO hYY hs hd hG hkW h0 hsW hY hJ hM hS hW hw c0 c1 c2 l0 l1 l2 hQ hT
 refine callsIn_of_wp Tryz.func167 rfl trivial ?_ rfl
 simp only [Tryz.ntmps167, List.size_toArray, List.length_cons, List.length_nil, Nat.reduceAdd, Nat.reduceSub, Array.replicate_succ, Array.replicate_zero, List.push_toArray, List.append_toArray, List.nil_append, List.cons_append]
 gi_wp2_with fail
 refine ⟨trivial, za6 _, ?_⟩
 refine (callsIn_wide.2 rt).mono ?_
 rintro e W1 ⟨ta, tc, rfl, hO, hk1⟩
 have hJ1 := HMO.out.new [] W W1 HJ0.out hk1
 have hrow : Zah (fun g => ¬ Mn W1 g) W1 ta T := hO.intsAt fun g hg hm => by
  have q1 := hJ1.2 g hm
  have q2 := (HMO.out.lo [] W g HJ0.out q1).2
  exact (hO.out hg).1 q2
 have HR1 : Hid (Zah (fun g => ¬ Mn W1 g) W1 ta T) := hrow
 have HJ1 : Hid (J [] W1 /\ Sn W1) := hJ1.1
 have HK1 : Hid (Kept (fun k => k < w0.heap.size) w0 W1) := HKW.out.trans (hk1.mono fun k h => ltl h HKW.out.size)
 rw [hln] at hTn ⊢
 clear rt hO hk1 hJ1 hrow a0 a1 a2 HJ0 HKW hln
 gi_wp2_with fail
 gi_loopw [13] (fun v wr => ∃ j : Nat, j <= ln /\ v = .int .i64 (j : Int) /\ (J ((T.take j).filter (qF M P i)) wr /\ Sn wr) /\ Kept (fun k => k < w0.heap.size) w0 wr /\ Zah (fun g => ¬ Mn wr g) wr ta T) (fun v _ => ln - (intOf v).toNat)
 case atStart => exact ⟨0, Nat.zero_le _, rfl, by simpa using HJ1.out, HK1.out, HR1.out⟩
 case round =>
  obtain ⟨j, hj, rfl, hJj, hKj, hrj⟩ := hrel
  by_cases hlt : j < ln
  ·have hjl : j < T.length := by rw [HLN.out]; exact hlt
   obtain ⟨g, o, rfl, -, hc⟩ := hrj j hjl
   obtain ⟨hf1, hf2⟩ := zm2 (q := qF M P i) hjl
   have hxn := HLT.out _ (List.getElem_mem hjl)
   obtain ⟨x, hx⟩ : ∃ x, T[j] = x := ⟨_, rfl⟩
   rw [hx] at hc hf1 hxn
   have hc' : wr.cell? ⟨g, o + j, none⟩ = some (.int .i64 (x : Int)) := hc
   have hxn1 := ltl hxn hn
   have rn := zex K p x M R wr (HD.out.1.kept hKj) HD.out.2.wf hxn (by omega) HD.out.2.few
   obtain ⟨a0, a1, a2⟩ := HCL.out wr hKj
   have HF1 : Hid ((T.take (j + 1)).filter (qF M P i) = (T.take j).filter (qF M P i) ++ (if qF M P i x = true then [x] else [])) := hf1
   have HF2 : Hid (T.filter (qF M P i) = (T.take (j + 1)).filter (qF M P i) ++ (T.drop (j + 1)).filter (qF M P i)) := hf2
   have HJJ : Hid (J ((T.take j).filter (qF M P i)) wr /\ Sn wr) := hJj
   have HKJ : Hid (Kept (fun k => k < w0.heap.size) w0 wr) := hKj
   have HRJ : Hid (Zah (fun g => ¬ Mn wr g) wr (some ⟨g, o, none⟩) T) := hrj
   have HXN : Hid (x < M.n) := hxn
   clear hf1 hf2 hx hc hJj hKj hrj hxn hjl
   by_cases hxi : (x : Int) = i
   ·have e1 : ((x : Int) != i) = false := by simp [hxi]
    have hqf : qF M P i x = false := by unfold qF; rw [decide_eq_true hxi]; rfl
    have HQ0 : Hid (qF M P i x = false) := hqf
    clear hxi hqf
    gi_wp2_with fail
    refine ⟨trivial, za6 _, ?_⟩
    refine (callsIn_wide.2 rn).mono ?_
    rintro e v1 ⟨ao, ac, ko, kc, rfl, hA, -, hKa⟩
    obtain ⟨V1, N1, hV1, rfl, hb1, kV1, sV1⟩ := za9 v1 (zch (M.nd x) ao ac (M.pl x).up ko (R x).length kc) 46
    have hkV : Kept (fun k => k < wr.heap.size) wr V1 := hKa.trans (kV1.mono fun k h => ltl h hKa.size)
    have hat : Zai (fun k => k < V1.heap.size) V1 ao (M.nd x).attrs := (hA.atsAt (K' := fun k => k < v1.heap.size) fun g hg => (hA.out hg).2).kept kV1 fun k h => ltl h kV1.size
    have hk0 : Kept (fun k => k < w0.heap.size) w0 V1 := HKJ.out.trans (hkV.mono fun k h => ltl h HKJ.out.size)
    have hJV := HMO.out.new _ wr V1 HJJ.out hkV
    have hrV : Zah (fun g => ¬ Mn V1 g) V1 (some ⟨g, o, none⟩) T := HRJ.out.kp (Kp.of_kept HMO.out HJJ.out HKJ.out.size hkV)
    obtain ⟨z0, z1, z2⟩ := HCL.out V1 hk0
    have rs := HS.out.says x HXN.out ao ac (M.pl x).up ko (R x).length kc V1 hk0 hat
    have HV1 : Hid (v1.alloc (.cells (zch (M.nd x) ao ac (M.pl x).up ko (R x).length kc) 46) = V1) := hV1
    have HJV : Hid (J ((T.take j).filter (qF M P i)) V1 /\ Sn V1) := hJV.1
    have HK0 : Hid (Kept (fun k => k < w0.heap.size) w0 V1) := hk0
    have HRV : Hid (Zah (fun g => ¬ Mn V1 g) V1 (some ⟨g, o, none⟩) T) := hrV
    obtain ⟨cs, hcs⟩ : ∃ cs, zch (M.nd x) ao ac (M.pl x).up ko (R x).length kc = cs := ⟨_, rfl⟩
    have hcz : cs.size = 14 := by rw [<- hcs]; rfl
    have hcI := zd5 cs hcz
    rw [hcs] at hb1 rs
    clear rn hV1 kV1 sV1 hA hKa hkV hat hk0 hJV hrV hcs hcz hc' a0 a1 a2
    have hqf := HQ0.out
    have hQF : (T.take (j + 1)).filter (qF M P i) = (T.take j).filter (qF M P i) := by rw [HF1.out, hqf]; simp
    have HQF : Hid ((T.take (j + 1)).filter (qF M P i) = (T.take j).filter (qF M P i)) := hQF
    clear hQF
    clear rs hqf
    gi_wp2_with (rw [HV1.out])
    refine ⟨fun _ h => (by cases h), ?_⟩
    gi_wp2
    go_roundw
    case rel => exact ⟨j + 1, by omega, by go_num, by rw [HQF.out]; exact HJV.out, HK0.out, HRV.out⟩
    case measure => simp [intOf]; omega
   ·have e1 : ((x : Int) != i) = true := by simp [hxi]
    have hqf : qF M P i x = P (M.nd x) := by unfold qF; rw [decide_eq_false hxi]; rfl
    clear hxi
    cases hP : P (M.nd x) with
    | false =>
     have HHP : Hid (P (M.nd x) = false /\ qF M P i x = P (M.nd x)) := ⟨hP, hqf⟩
     clear hP hqf
     gi_wp2_with fail
     refine ⟨trivial, za6 _, ?_⟩
     refine (callsIn_wide.2 rn).mono ?_
     rintro e v1 ⟨ao, ac, ko, kc, rfl, hA, -, hKa⟩
     obtain ⟨V1, N1, hV1, rfl, hb1, kV1, sV1⟩ := za9 v1 (zch (M.nd x) ao ac (M.pl x).up ko (R x).length kc) 46
     have hkV : Kept (fun k => k < wr.heap.size) wr V1 := hKa.trans (kV1.mono fun k h => ltl h hKa.size)
     have hat : Zai (fun k => k < V1.heap.size) V1 ao (M.nd x).attrs := (hA.atsAt (K' := fun k => k < v1.heap.size) fun g hg => (hA.out hg).2).kept kV1 fun k h => ltl h kV1.size
     have hk0 : Kept (fun k => k < w0.heap.size) w0 V1 := HKJ.out.trans (hkV.mono fun k h => ltl h HKJ.out.size)
     have hJV := HMO.out.new _ wr V1 HJJ.out hkV
     have hrV : Zah (fun g => ¬ Mn V1 g) V1 (some ⟨g, o, none⟩) T := HRJ.out.kp (Kp.of_kept HMO.out HJJ.out HKJ.out.size hkV)
     obtain ⟨z0, z1, z2⟩ := HCL.out V1 hk0
     have rs := HS.out.says x HXN.out ao ac (M.pl x).up ko (R x).length kc V1 hk0 hat
     have HV1 : Hid (v1.alloc (.cells (zch (M.nd x) ao ac (M.pl x).up ko (R x).length kc) 46) = V1) := hV1
     have HJV : Hid (J ((T.take j).filter (qF M P i)) V1 /\ Sn V1) := hJV.1
     have HK0 : Hid (Kept (fun k => k < w0.heap.size) w0 V1) := hk0
     have HRV : Hid (Zah (fun g => ¬ Mn V1 g) V1 (some ⟨g, o, none⟩) T) := hrV
     obtain ⟨cs, hcs⟩ : ∃ cs, zch (M.nd x) ao ac (M.pl x).up ko (R x).length kc = cs := ⟨_, rfl⟩
     have hcz : cs.size = 14 := by rw [<- hcs]; rfl
     have hcI := zd5 cs hcz
     rw [hcs] at hb1 rs
     clear rn hV1 kV1 sV1 hA hKa hkV hat hk0 hJV hrV hcs hcz hc' a0 a1 a2
     obtain ⟨hP, hqf⟩ := HHP.out
     rw [hP] at rs hqf
     have hQF : (T.take (j + 1)).filter (qF M P i) = (T.take j).filter (qF M P i) := by rw [HF1.out, hqf]; simp
     have HQF : Hid ((T.take (j + 1)).filter (qF M P i) = (T.take j).filter (qF M P i)) := hQF
     clear hQF
     clear hqf hP
     gi_wp2_with (first | (rw [HV1.out]) | (refine zc9 rfl 46 _ rfl v1.heap.size rfl 46 cs (0, 0) _ hb1 Tryz.underlying46 rfl hcI ?_))
     refine ⟨trivial, za6 _, ?_⟩
     refine (callsIn_wide.2 rs).mono ?_
     rintro e V2 ⟨rfl, hk2⟩
     have hJ2 := HMO.out.new _ V1 V2 HJV.out hk2
     have hR2 := HRV.out.kp (Kp.of_kept HMO.out HJV.out HK0.out.size hk2)
     have hK2 := HK0.out.trans (hk2.mono fun k h => ltl h HK0.out.size)
     have H2 : Hid ((J ((T.take j).filter (qF M P i)) V2 /\ Sn V2) /\ Kept (fun k => k < w0.heap.size) w0 V2 /\ Zah (fun g => ¬ Mn V2 g) V2 (some ⟨g, o, none⟩) T) := ⟨hJ2.1, hK2, hR2⟩
     clear hJ2 hR2 hK2 rs hk2
     gi_wp2
     refine ⟨fun _ h => (by cases h), ?_⟩
     gi_wp2
     go_roundw
     case rel => exact ⟨j + 1, by omega, by go_num, by rw [HQF.out]; exact H2.out.1, H2.out.2.1, H2.out.2.2⟩
     case measure => simp [intOf]; omega
    | true =>
     have HHP : Hid (P (M.nd x) = true /\ qF M P i x = P (M.nd x)) := ⟨hP, hqf⟩
     clear hP hqf
     gi_wp2_with fail
     refine ⟨trivial, za6 _, ?_⟩
     refine (callsIn_wide.2 rn).mono ?_
     rintro e v1 ⟨ao, ac, ko, kc, rfl, hA, -, hKa⟩
     obtain ⟨V1, N1, hV1, rfl, hb1, kV1, sV1⟩ := za9 v1 (zch (M.nd x) ao ac (M.pl x).up ko (R x).length kc) 46
     have hkV : Kept (fun k => k < wr.heap.size) wr V1 := hKa.trans (kV1.mono fun k h => ltl h hKa.size)
     have hat : Zai (fun k => k < V1.heap.size) V1 ao (M.nd x).attrs := (hA.atsAt (K' := fun k => k < v1.heap.size) fun g hg => (hA.out hg).2).kept kV1 fun k h => ltl h kV1.size
     have hk0 : Kept (fun k => k < w0.heap.size) w0 V1 := HKJ.out.trans (hkV.mono fun k h => ltl h HKJ.out.size)
     have hJV := HMO.out.new _ wr V1 HJJ.out hkV
     have hrV : Zah (fun g => ¬ Mn V1 g) V1 (some ⟨g, o, none⟩) T := HRJ.out.kp (Kp.of_kept HMO.out HJJ.out HKJ.out.size hkV)
     obtain ⟨z0, z1, z2⟩ := HCL.out V1 hk0
     have rs := HS.out.says x HXN.out ao ac (M.pl x).up ko (R x).length kc V1 hk0 hat
     have HV1 : Hid (v1.alloc (.cells (zch (M.nd x) ao ac (M.pl x).up ko (R x).length kc) 46) = V1) := hV1
     have HJV : Hid (J ((T.take j).filter (qF M P i)) V1 /\ Sn V1) := hJV.1
     have HK0 : Hid (Kept (fun k => k < w0.heap.size) w0 V1) := hk0
     have HRV : Hid (Zah (fun g => ¬ Mn V1 g) V1 (some ⟨g, o, none⟩) T) := hrV
     obtain ⟨cs, hcs⟩ : ∃ cs, zch (M.nd x) ao ac (M.pl x).up ko (R x).length kc = cs := ⟨_, rfl⟩
     have hcz : cs.size = 14 := by rw [<- hcs]; rfl
     have hcI := zd5 cs hcz
     rw [hcs] at hb1 rs
     clear rn hV1 kV1 sV1 hA hKa hkV hat hk0 hJV hrV hcs hcz hc' a0 a1 a2
     obtain ⟨hP, hqf⟩ := HHP.out
     rw [hP] at rs hqf
     have hQF : (T.take (j + 1)).filter (qF M P i) = (T.take j).filter (qF M P i) ++ [x] := by rw [HF1.out, hqf]; simp
     have HQF : Hid ((T.take (j + 1)).filter (qF M P i) = (T.take j).filter (qF M P i) ++ [x]) := hQF
     clear hQF
     clear hqf hP
     gi_wp2_with (first | (rw [HV1.out]) | (refine zc9 rfl 46 _ rfl v1.heap.size rfl 46 cs (0, 0) _ hb1 Tryz.underlying46 rfl hcI ?_))
     refine ⟨trivial, za6 _, ?_⟩
     refine (callsIn_wide.2 rs).mono ?_
     rintro e V2 ⟨rfl, hk2⟩
     have hJ2 := HMO.out.new _ V1 V2 HJV.out hk2
     have hR2 := HRV.out.kp (Kp.of_kept HMO.out HJV.out HK0.out.size hk2)
     have hK2 := HK0.out.trans (hk2.mono fun k h => ltl h HK0.out.size)
     have H2 : Hid (Kept (fun k => k < w0.heap.size) w0 V2 /\ Zah (fun g => ¬ Mn V2 g) V2 (some ⟨g, o, none⟩) T) := ⟨hK2, hR2⟩
     obtain ⟨fn, tmps, assign, body, hy, hR⟩ := HY.out (n - 1) _ x V2 hJ2.1 (by rw [HF2.out, HQF.out]; simp)
     clear hJ2 hR2 hK2 rs hk2
     gi_wp2_with fail
     refine ⟨za6 _, ?_⟩
     refine hR.mono ?_
     clear hR
     rintro e W3 (⟨rfl, hJ3, hk3⟩ | ⟨rfl, hx3⟩)
     ·have H3 : Hid ((J ((T.take j).filter (qF M P i) ++ [x]) W3 /\ Sn W3) /\ Kept (fun k => k < w0.heap.size) w0 W3 /\ Zah (fun g => ¬ Mn W3 g) W3 (some ⟨g, o, none⟩) T) := ⟨hJ3, H2.out.1.trans (Below.kept hk3.below), H2.out.2.kp hk3⟩
      clear hJ3 hk3
      gi_wp2
      go_roundw
      case rel => exact ⟨j + 1, by omega, by go_num, by rw [HQF.out]; exact H3.out.1, H3.out.2.1, H3.out.2.2⟩
      case measure => simp [intOf]; omega
     ·have H3 : Hid (Jx ((T.take j).filter (qF M P i) ++ [x]) W3) := hx3
      clear hx3
      gi_wp2
      refine bodyPost_ret (results_none rfl _ _ _) rfl ?_
      exact ⟨⟨_, rfl⟩, .inr ⟨_, ⟨_, by rw [HF2.out, HQF.out]⟩, H3.out⟩⟩
  ·have hjn : ln = j := by omega
   subst hjn
   have HJJ : Hid (J (T.filter (qF M P i)) wr) := by
    rw [List.take_of_length_le (by rw [HLN.out]; exact Nat.le_refl _)] at hJj
    exact hJj.1
   clear hJj hKj hrj
   gi_wp2
   go_end0
   exact ⟨⟨_, rfl⟩, .inl ⟨_, rfl, HJJ.out⟩⟩
end Go.Proofs.YtojbjiopilkbgaaGreat
