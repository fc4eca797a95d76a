/-
  What is sought, as closures: one contract for all three.
-/
import Derived.Test.YtojbjiopilkbgaaGreatVQa
namespace Go.Proofs.YtojbjiopilkbgaaGreat
open Go.RowKit Go.Sort
set_option linter.unusedVariables false
set_option maxRecDepth 100000
set_option maxHeartbeats 8000000
theorem zd5 (cs : Array Value) (h : cs.size = 14) : (Tryz.prog.info? 46).map (·.size) = some cs.size := by rw [h]; kernel_rfl
theorem zin (x : Nd) (ao : Option Addr) (ac : Nat) (up : Int) (ko : Option Addr) (kn kc b1 : Nat) (S : ByteArray) (w : World) (c1 : w.cell? ⟨b1, 0, none⟩ = some (.string S)) (l1 : b1 < w.heap.size) :
  Calls Tryz.prog 171 #[.agg (zch x ao ac up ko kn kc), .pointer (some ⟨b1, 0, none⟩)] w fun e w' => e = .returned (.bool (zey S.toList x)) /\ Kept (fun k => k < w.heap.size) w w' := by
 obtain ⟨V, N, hV, hN, hb, hk, hsz⟩ := za9 w (zch x ao ac up ko kn kc) 46
 have re := zdl x ao ac up ko kn kc V
 have HF : Hid (∀ X, Kept (fun k => k < V.heap.size) V X -> X.cell? ⟨N, 1, none⟩ = some (sv x.name) /\ X.cell? ⟨b1, 0, none⟩ = some (.string S)) := fun X hX => by
  have h1 := (hX.block N (zae hb)).trans hb
  exact ⟨by rw [zaa h1]; rfl, (hX.cell (p := ⟨b1, 0, none⟩) (ltl l1 hk.size)).trans ((hk.cell (p := ⟨b1, 0, none⟩) l1).trans c1)⟩
 have HV : Hid (w.alloc (.cells (zch x ao ac up ko kn kc) 46) = V) := hV
 have HN : Hid (w.heap.size = N) := hN
 have HK : Hid (Kept (fun k => k < w.heap.size) w V) := hk
 obtain ⟨cs, hcs⟩ : ∃ cs, zch x ao ac up ko kn kc = cs := ⟨_, rfl⟩
 have hcz : cs.size = 14 := by rw [<- hcs]; rfl
 have hcI := zd5 cs hcz
 rw [hcs] at hb re HV ⊢
 clear hV hN hk hsz c1 l1 hcs hcz
 go_enter Tryz.func171, Tryz.ntmps171
 go_upto_region 1 with fail
 rw [HV.out, HN.out]
 clear HV
 cases he : elB x with
 | false =>
  rw [he] at re
  have HE : Hid (zey S.toList x = false) := by
   unfold zey
   unfold elB at he
   rw [he]; rfl
  clear he
  go_wp2_with (first | (refine wpList_load_row rfl 46 _ rfl N rfl 46 cs (0, 0) _ hb Tryz.underlying46 rfl hcI ?_) | (refine re.mono ?_; rintro e w2 ⟨rfl, hk2⟩))
  go_ret
  exact ⟨by rw [HE.out]; rfl, HK.out.trans (hk2.mono fun k h => ltl h HK.out.size)⟩
 | true =>
  rw [he] at re
  have hnb : zey S.toList x = ((⟨x.name.toArray⟩ : ByteArray).toList == S.toList) := by
   rw [zjk x.name]
   unfold zey
   unfold elB at he
   rw [he, Bool.true_and, zfi]
   exact Bool.beq_comm
  obtain ⟨s, hs⟩ : ∃ s : ByteArray, (⟨x.name.toArray⟩ : ByteArray) = s := ⟨_, rfl⟩
  have hsv : sv x.name = .string s := by rw [<- hs]
  rw [hs] at hnb
  rw [hsv] at HF
  obtain ⟨b, hbb⟩ : ∃ b, (s.toList == S.toList) = b := ⟨_, rfl⟩
  rw [hbb] at hnb
  have HE : Hid (zey S.toList x = b) := hnb
  clear he hs hsv hnb
  go_wp2_with (first | (refine wpList_load_row rfl 46 _ rfl N rfl 46 cs (0, 0) _ hb Tryz.underlying46 rfl hcI ?_) | (refine re.mono ?_; rintro e w2 ⟨rfl, hk2⟩; obtain ⟨z1, z2⟩ := HF.out w2 hk2))
  go_ret
  exact ⟨by rw [HE.out]; rfl, HK.out.trans (hk2.mono fun k h => ltl h HK.out.size)⟩
theorem zhf (x : Nd) (ao : Option Addr) (ac : Nat) (up : Int) (ko : Option Addr) (kn kc b1 b2 : Nat) (S T : ByteArray) (w : World) (c1 : w.cell? ⟨b1, 0, none⟩ = some (.string S)) (l1 : b1 < w.heap.size) (c2 : w.cell? ⟨b2, 0, none⟩ = some (.string T)) (l2 : b2 < w.heap.size) (hf : x.attrs.length <= 1000000) (ha : Zai (fun k => k < w.heap.size) w ao x.attrs) :
  Calls Tryz.prog 169 #[.agg (zch x ao ac up ko kn kc), .pointer (some ⟨b1, 0, none⟩), .pointer (some ⟨b2, 0, none⟩)] w fun e w' => e = .returned (.bool (zh8 S.toList T.toList x)) /\ Kept (fun k => k < w.heap.size) w w' := by
 obtain ⟨V, N, hV, hN, hb, hk, hsz⟩ := za9 w (zch x ao ac up ko kn kc) 46
 have re := zdl x ao ac up ko kn kc V
 obtain ⟨m, hm⟩ : ∃ m, x.attrs.length = m := ⟨_, rfl⟩
 have HF : Hid (∀ X, Kept (fun k => k < V.heap.size) V X -> X.cell? ⟨N, 3, none⟩ = some (.slice ao m ac) /\ X.cell? ⟨b1, 0, none⟩ = some (.string S) /\ X.cell? ⟨b2, 0, none⟩ = some (.string T) /\ Calls Tryz.prog 170 #[.slice ao m ac, .agg #[.string S, .string T]] X fun e w' => e = .returned (.bool (x.attrs.any (isA S.toList T.toList))) /\ Kept (fun k => k < X.heap.size) X w') := fun X hX => by
  have h1 := (hX.block N (zae hb)).trans hb
  have hkX : Kept (fun k => k < w.heap.size) w X := hk.trans (hX.mono fun k h => ltl h hk.size)
  exact ⟨by rw [zaa h1, <- hm]; rfl, (hkX.cell (p := ⟨b1, 0, none⟩) l1).trans c1, (hkX.cell (p := ⟨b2, 0, none⟩) l2).trans c2, zg0 x.attrs m hm (by omega) ao ac S T X (ha.kept hkX fun _ h => ltl h hkX.size)⟩
 have HV : Hid (w.alloc (.cells (zch x ao ac up ko kn kc) 46) = V) := hV
 have HN : Hid (w.heap.size = N) := hN
 have HK : Hid (Kept (fun k => k < w.heap.size) w V) := hk
 obtain ⟨cs, hcs⟩ : ∃ cs, zch x ao ac up ko kn kc = cs := ⟨_, rfl⟩
 have hcz : cs.size = 14 := by rw [<- hcs]; rfl
 have hcI := zd5 cs hcz
 rw [hcs] at hb re HV ⊢
 clear hV hN hk hsz c1 l1 c2 l2 hcs hcz ha hf hm
 go_enter Tryz.func169, Tryz.ntmps169
 go_upto_region 1 with fail
 rw [HV.out, HN.out]
 clear HV
 cases he : elB x with
 | false =>
  rw [he] at re
  have HE : Hid (zh8 S.toList T.toList x = false) := by
   unfold zh8
   unfold elB at he
   rw [he]; rfl
  clear he
  go_wp2_with (first | (refine wpList_load_row rfl 46 _ rfl N rfl 46 cs (0, 0) _ hb Tryz.underlying46 rfl hcI ?_) | (refine re.mono ?_; rintro e w2 ⟨rfl, hk2⟩))
  go_ret
  exact ⟨by rw [HE.out]; rfl, HK.out.trans (hk2.mono fun k h => ltl h HK.out.size)⟩
 | true =>
  rw [he] at re
  have HE : Hid (zh8 S.toList T.toList x = x.attrs.any (isA S.toList T.toList)) := by
   unfold zh8
   unfold elB at he
   rw [he]; rfl
  clear he
  go_wp2_with (first | (refine wpList_load_row rfl 46 _ rfl N rfl 46 cs (0, 0) _ hb Tryz.underlying46 rfl hcI ?_) | (go_at_call 98; refine re.mono ?_; rintro e w2 ⟨rfl, hk2⟩; obtain ⟨z1, z2, z3, rc⟩ := HF.out w2 hk2) | (go_at_call 170; refine rc.mono ?_; rintro e w3 ⟨rfl, hk3⟩))
  go_ret
  exact ⟨by rw [HE.out]; rfl, (HK.out.trans (hk2.mono fun k h => ltl h HK.out.size)).trans (hk3.mono fun k h => ltl h (Nat.le_trans HK.out.size hk2.size))⟩
structure Sgt (w0 : World) (M : Dm) (P : Nd -> Bool) (f : Nat) (caps : Array Value) : Prop where
 ent : ∀ (args : Array Value) (X : World), (callFunc f args).run Tryz.prog X = .ok (.enter f args) X
 says : ∀ i, i < M.n -> ∀ ao ac up ko kn kc X, Kept (fun k => k < w0.heap.size) w0 X -> Zai (fun k => k < X.heap.size) X ao (M.nd i).attrs -> Calls Tryz.prog f (#[.agg (zch (M.nd i) ao ac up ko kn kc)] ++ caps) X fun e w' => e = .returned (.bool (P (M.nd i))) /\ Kept (fun k => k < X.heap.size) X w'
theorem zql (args : Array Value) (X : World) : (callFunc 98 args).run Tryz.prog X = .ok (.enter 98 args) X := zay Tryz.func98 (by kernel_rfl) (c := _) rfl args X
theorem zpp (args : Array Value) (X : World) : (callFunc 171 args).run Tryz.prog X = .ok (.enter 171 args) X := zay Tryz.func171 (by kernel_rfl) (c := _) rfl args X
theorem zp6 (args : Array Value) (X : World) : (callFunc 169 args).run Tryz.prog X = .ok (.enter 169 args) X := zay Tryz.func169 (by kernel_rfl) (c := _) rfl args X
theorem Sgt.el (w0 : World) (M : Dm) : Sgt w0 M elB 98 #[] := ⟨zql, fun i hi ao ac up ko kn kc X _ _ => zdl (M.nd i) ao ac up ko kn kc X⟩
theorem Sgt.nam (w0 : World) (M : Dm) (S : ByteArray) (b : Nat) (c : w0.cell? ⟨b, 0, none⟩ = some (.string S)) (l : b < w0.heap.size) : Sgt w0 M (zey S.toList) 171 #[.pointer (some ⟨b, 0, none⟩)] :=
 ⟨zpp, fun i hi ao ac up ko kn kc X hX _ => zin (M.nd i) ao ac up ko kn kc b S X ((hX.cell (p := ⟨b, 0, none⟩) l).trans c) (ltl l hX.size)⟩
theorem Sgt.hav (w0 : World) (M : Dm) (hf : ∀ i, i < M.n -> (M.nd i).attrs.length <= 1000000) (S T : ByteArray) (b c : Nat) (hb : w0.cell? ⟨b, 0, none⟩ = some (.string S)) (lb : b < w0.heap.size) (hc : w0.cell? ⟨c, 0, none⟩ = some (.string T)) (lc : c < w0.heap.size) : Sgt w0 M (zh8 S.toList T.toList) 169 #[.pointer (some ⟨b, 0, none⟩), .pointer (some ⟨c, 0, none⟩)] :=
 ⟨zp6, fun i hi ao ac up ko kn kc X hX ha => zhf (M.nd i) ao ac up ko kn kc b c S T X ((hX.cell (p := ⟨b, 0, none⟩) lb).trans hb) (ltl lb hX.size) ((hX.cell (p := ⟨c, 0, none⟩) lc).trans hc) (ltl lc hX.size) (hf i hi) ha⟩
theorem Sgt.kept {w0 w1 : World} {M : Dm} {P : Nd -> Bool} {f : Nat} {caps : Array Value} (h : Sgt w0 M P f caps) (hk : Kept (fun k => k < w0.heap.size) w0 w1) : Sgt w1 M P f caps :=
 ⟨h.ent, fun i hi ao ac up ko kn kc X hX ha => h.says i hi ao ac up ko kn kc X (hk.trans (hX.mono fun k h => ltl h hk.size)) ha⟩
end Go.Proofs.YtojbjiopilkbgaaGreat
