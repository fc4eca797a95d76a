/-
  Several texts, one behind the other: TkF, Kinds, Idx, TkB.
-/
import Derived.Test.YtncfgahnjakeiabDoorTkE
import Derived.Test.YtncfgahnjakeiabDoorClean
import Derived.Test.YtncfgahnjakeiabDoorProg
import Derived.Test.YtncfgahnjakeiabDoorBase
import Derived.Test.YtncfgahnjakeiabDoorMa
import Derived.Deep.QuietTactic
import Derived.BigQuiet
import Derived.Laws.StandIn
import Derived.Laws.Externs
import Derived.Laws.Runes
import Derived.Test.YtncfgahnjakeiabDoorTkA
import Derived.Deep.LoopGhost
section
namespace Go.Proofs.YtncfgahnjakeiabDoor
open Go.RowKit

theorem TK.weaken {K K' A : Nat → Prop} {w : World} {p : Nat} {st : TS} (h : TK K A w p st) (hs : ∀ k, K' k → K k) (hA : ∀ k, A k → K' k) : TK K' A w p st := by
  obtain ⟨h1, _, ta, tc, tcs, fa, fc, bp, ba, bc, hb, hp, h2, h3, h4, h5⟩ := h
  refine ⟨fun h => h1 (hs _ h), hA, ta, tc, tcs, fa, fc, bp, ba, bc, hb, hp, h2.to (fun g hg => ?_) (fun _ _ => rfl), h3, h4.to (fun g hg => ?_) (fun _ _ => rfl), h5.to (fun g hg => ?_) (fun _ _ => rfl)⟩
  · rintro (hh | hh)
    · exact (h2.out hg).1 (.inl (hs _ hh))
    · exact (h2.out hg).1 (.inr hh)
  · rintro (hh | hh)
    · exact (h4.out hg).1 (.inl (hs _ hh))
    · exact (h4.out hg).1 (.inr hh)
  · rintro (hh | hh)
    · exact (h5.out hg).1 (.inl (hs _ hh))
    · exact (h5.out hg).1 (.inr hh)
/-- More that is kept: blocks that did not lie there. -/
theorem TK.more {K K' A : Nat → Prop} {w : World} {p : Nat} {st : TS} (h : TK K A w p st) (hs : ∀ k, K' k → K k ∨ w.heap.size ≤ k) (hA : ∀ k, A k → K' k) : TK K' A w p st := by
  obtain ⟨h1, _, ta, tc, tcs, fa, fc, bp, ba, bc, hb, hp, h2, h3, h4, h5⟩ := h
  refine ⟨fun h => ?_, hA, ta, tc, tcs, fa, fc, bp, ba, bc, hb, hp, h2.to (fun g hg => ?_) (fun _ _ => rfl), h3, h4.to (fun g hg => ?_) (fun _ _ => rfl), h5.to (fun g hg => ?_) (fun _ _ => rfl)⟩
  · rcases hs _ h with hh | hh
    · exact h1 hh
    · have := lt_block hb
      omega
  · rintro (hh | hh)
    · rcases hs _ hh with hh | hh
      · exact (h2.out hg).1 (.inl hh)
      · have := (h2.out hg).2
        omega
    · exact (h2.out hg).1 (.inr hh)
  · rintro (hh | hh)
    · rcases hs _ hh with hh | hh
      · exact (h4.out hg).1 (.inl hh)
      · have := (h4.out hg).2
        omega
    · exact (h4.out hg).1 (.inr hh)
  · rintro (hh | hh)
    · rcases hs _ hh with hh | hh
      · exact (h5.out hg).1 (.inl hh)
      · have := (h5.out hg).2
        omega
    · exact (h5.out hg).1 (.inr hh)

theorem TK.keptA {K A : Nat → Prop} {w w' : World} {p : Nat} {st : TS} (h : TK K A w p st) (hk : Kept (fun k => k < w.heap.size) w w') (hAl : ∀ k, A k → k < w.heap.size) : TK K A w' p st := by
  obtain ⟨h1, hA, ta, tc, tcs, fa, fc, bp, ba, bc, hb, hp, ht, hr, hf, ho⟩ := h
  refine ⟨h1, hA, ta, tc, tcs, fa, fc, bp, ba, bc, ?_, hp, ?_, ?_, ?_, ?_⟩
  · rw [hk.block p (lt_block hb)]; exact hb
  · exact ht.to (fun g hg => (ht.out hg).1) (fun g hg => hk.block g (ht.out hg).2)
  · exact hr.kept (hk.mono hAl) (fun _ h => h)
  · exact hf.to (fun g hg => (hf.out hg).1) (fun g hg => hk.block g (hf.out hg).2)
  · exact ho.to (fun g hg => (ho.out hg).1) (fun g hg => hk.block g (ho.out hg).2)
theorem endT_pot {st : TS} {b : Nat} (h : pot st ≤ b) : pot st.endT ≤ b := by
  unfold TS.endT
  split
  · exact h
  · rename_i ht
    have : 0 < st.text.length := List.length_pos_iff.2 ht
    unfold pot at h ⊢
    simp only [List.length_append, List.length_cons, List.length_nil]
    omega

set_option maxRecDepth 20000 in
set_option maxHeartbeats 1000000 in
theorem add_any (K A : Nat → Prop) (p : Nat) (st : TS) (w : World) (h : TK K A w p st) (hKl : ∀ k, K k → k < w.heap.size) (hn : pot st ≤ 1000000000) (t : Tk) (aa : Option Addr) (ac : Nat) (ha : AtsIn A w aa t.attrs) :
    Calls Tryd.prog 47 #[.pointer (some ⟨p, 0, none⟩), .agg #[.int .u8 (t.kind : Int), sv t.name, .slice aa t.attrs.length ac, .bool t.self, sv t.data, .int .i64 (t.pl : Int)]] w fun e w' => e = .returned (.tuple #[]) ∧ TK K A w' p (st.add t) ∧ Kept K w w' := by
  obtain ⟨W, hW⟩ : ∃ W, w.alloc (.cells (tokCells t aa ac).toArray 34) = W := ⟨_, rfl⟩
  obtain ⟨N, hN⟩ : ∃ N, w.heap.size = N := ⟨_, rfl⟩
  have hWN : W.heap.size = N + 1 := by rw [← hW, ← hN]; simp
  have hkW : Kept K w W := by rw [← hW]; exact (Kept.refl K w).alloc hKl _
  have hcW : ∀ i u, (tokCells t aa ac)[i]? = some u → W.cell? ⟨N, i, none⟩ = some u := by
    intro i u hi
    rw [← hW, ← hN, cell_block (heap_alloc_new w _), ← Array.getElem?_toList]
    exact hi
  have hA := h.2.1
  have hKW : ∀ k, (K k ∨ k = N) → k < W.heap.size := by
    rintro k (hk | rfl)
    · have := hKl k hk; omega
    · omega
  have hTW : TK (fun k => K k ∨ k = N) A W p st := by
    have h1 : TK (fun k => K k ∨ k = N) A w p st := h.more (fun k hk => by rcases hk with hk | rfl; exact .inl hk; exact .inr (by omega)) (fun k hk => .inl (hA k hk))
    refine h1.keptA ?_ (fun k hk => hKl k (hA k hk))
    rw [← hW]
    exact (Kept.refl _ w).alloc (fun _ h => h) _
  have hend := endText_any (fun k => K k ∨ k = N) A p st W hTW hKW hn
  have haW : AtsIn A W aa t.attrs := ha.kept (hkW.mono hA) (fun _ h => h)
  have hn2 : st.endT.toks.length ≤ 1000000000 := by have := endT_pot hn; unfold pot at this; omega
  have HA : Hid (∀ X, TK (fun k => K k ∨ k = N) A X p st.endT → Kept (fun k => K k ∨ k = N) W X → ∃ ta tc, X.drew.cell? ⟨p, 2, none⟩ = some (.slice ta st.endT.toks.length tc) ∧ (∀ i u, (tokCells t aa ac)[i]? = some u → X.drew.cell? ⟨N, i, none⟩ = some u) ∧
      (X.drew.alloc (.cells (tokCells t aa ac).toArray 34)).cell? ⟨p, 2, none⟩ = some (.slice ta st.endT.toks.length tc) ∧ ∃ ta' tc' w', (Builtin.append_ #[29, 29] 29 #[.slice ta st.endT.toks.length tc, .slice (some ⟨X.drew.heap.size, 0, none⟩) 1 1]).run Tryd.prog (X.drew.alloc (.cells (tokCells t aa ac).toArray 34)) = .ok (.slice ta' (st.endT.toks.length + 1) tc') w' ∧
      w'.cell? ⟨p, 2, none⟩ = some (.slice ta st.endT.toks.length tc) ∧ w'.frozen? ⟨p, 2, none⟩ = false ∧ TK K A (w'.setCell ⟨p, 2, none⟩ (.slice ta' (st.endT.toks.length + 1) tc')) p (st.add t) ∧ Kept K w (w'.setCell ⟨p, 2, none⟩ (.slice ta' (st.endT.toks.length + 1) tc'))) := by
    intro X hX hkX
    have hKX : ∀ k, (K k ∨ k = N) → k < X.drew.heap.size := fun k hk => Nat.lt_of_lt_of_le (hKW k hk) hkX.size
    have hXd : TK (fun k => K k ∨ k = N) A X.drew p st.endT := hX.drew hKX
    obtain ⟨bp, ba, bc, ho, hp, how⟩ := hXd.apart
    obtain ⟨ta, tc, q1, ta', tc', w', r1, r2, r3, r4, r5, r6⟩ := ho.appT hKX (fun g hg => (how.out hg).2) hn2 t aa ac (haW.kept ((hkX.drew).mono fun k hk => .inl (hA k hk)) (fun _ h => h))
    have hcX : ∀ i u, (tokCells t aa ac)[i]? = some u → X.drew.cell? ⟨N, i, none⟩ = some u := fun i u hi => by
      rw [hkX.drew.cell (p := ⟨N, i, none⟩) (.inr rfl)]
      exact hcW i u hi
    have hpl := hXd.lt
    refine ⟨ta, tc, q1, hcX, ?_, ta', tc', w', r1, r2, r3, ?_, (hkW.trans (hkX.drew.mono fun _ h => .inl h)).trans (r5.mono fun _ h => .inl h)⟩
    · rw [World.cell?_of_block (w := X.drew) (Below.heap_alloc _ _ _ hpl)]
      exact q1
    · have : TK (fun k => K k ∨ k = N) A (w'.setCell ⟨p, 2, none⟩ (.slice ta' (st.endT.toks.length + 1) tc')) p (st.add t) := by
        refine TKo.join (bp := bp) (ba := ba) (bc := bc) r4 hp (how.to (fun g hg => (how.out hg).1) (fun g hg => r6 g hg fun e => (how.out hg).1 (.inr e)))
      exact this.weaken (fun _ h => .inl h) hA
  obtain ⟨n, hne⟩ : ∃ n, st.endT.toks.length = n := ⟨_, rfl⟩
  rw [hne] at HA
  rw [← hW] at hend HA
  clear h ha hKl hn hkW hcW hWN haW hn2 hTW hKW hA hne hW
  go_enter Tryd.func47, Tryd.ntmps47
  go_wp2_with fail
  refine hend.mono ?_
  rintro e w1 ⟨rfl, ht1, hk1⟩
  obtain ⟨ta, tc, d2, dN, d2a, ta', tc', w3, hrun, e2, g2, hto, hkf⟩ := HA.out w1 ht1 hk1
  have n0 := dN 0 _ rfl
  have n1 := dN 1 _ rfl
  have n2 := dN 2 _ rfl
  have n3 := dN 3 _ rfl
  have n4 := dN 4 _ rfl
  have n5 := dN 5 _ rfl
  have d2b : (w1.alloc (.cells #[.int .u8 (t.kind : Int), sv t.name, .slice aa t.attrs.length ac, .bool t.self, sv t.data, .int .i64 (t.pl : Int)] 34)).drew.cell? ⟨p, 2, none⟩ = some (.slice ta n tc) := d2a
  have d2c : (w1.alloc (.cells #[.int .u8 (t.kind : Int), sv t.name, .slice aa t.attrs.length ac, .bool t.self, sv t.data, .int .i64 (t.pl : Int)] 34)).cell? ⟨p, 2, none⟩ = some (.slice ta n tc) := d2a
  clear dN HA hend hk1 d2a
  go_wp2_with fail
  go_region_law (refine step_appR (w' := w3) rfl (.tmp 10) (.tmp 12) 29 29 rfl _ _ (.slice ta' (n + 1) tc') rfl rfl hrun ?_)
  all_goals
    go_wp2
    go_end0
    exact ⟨rfl, hto, hkf⟩
end Go.Proofs.YtncfgahnjakeiabDoor
end
section
namespace Go.Proofs.YtncfgahnjakeiabDoor
open Go.RowKit
set_option maxRecDepth 20000 in
set_option maxHeartbeats 4000000 in
theorem raw_any (s : ByteArray) (K : Nat → Prop) (w : World) :
    Calls Tryd.prog 64 #[.string s] w fun e w' => e = .returned (.bool (rawP s.toList)) ∧ Kept K w w' := by
  go_enter Tryd.func64, Tryd.ntmps64
  go_wp2
  all_goals first | (simp_all; done) | (go_ret; exact ⟨by simp [rawP, rawL, *], Kept.refl _ _⟩)
theorem soft_any (s : ByteArray) (K : Nat → Prop) (w : World) :
    Calls Tryd.prog 63 #[.string s] w fun e w' => e = .returned (.bool (softP s.toList)) ∧ Kept K w w' := by
  by_cases h1 : (s.toList == [116, 105, 116, 108, 101]) = true
  · go_enter Tryd.func63, Tryd.ntmps63
    go_wp2
    go_ret
    exact ⟨by simp [softP, softL, *], Kept.refl _ _⟩
  · have h1 : (s.toList == [116, 105, 116, 108, 101]) = false := by simpa using h1
    go_enter Tryd.func63, Tryd.ntmps63
    go_wp2
    go_ret
    exact ⟨by simp [softP, softL, h1], Kept.refl _ _⟩

end Go.Proofs.YtncfgahnjakeiabDoor
end
section
namespace Go.Proofs.YtncfgahnjakeiabDoor
open Go.RowKit

theorem run_ibs (s : ByteArray) (c : Int) (w : World) : (callFunc 71 #[.string s, .int .u8 c]).run Tryd.prog w = .ok (.value (.int .i64 (firstIdx s c.toNat.toUInt8))) w := by
  rw [run_callFunc_indexByte Tryd.func71 (by kernel_rfl) (by kernel_rfl) (by kernel_rfl) (by kernel_rfl), run_indexByte_string]
  rfl

theorem ib_any (s : ByteArray) (K : Nat → Prop) (w : World) :
    Calls Tryd.prog 56 #[.string s, .int .u8 45] w fun e w' => e = .returned (.int .i64 (firstIdx s 45)) ∧ Kept K w w' := by
  have h1 := fun X => run_ibs s 45 X
  go_enter Tryd.func56, Tryd.ntmps56
  go_wp2_with fail
  go_ret
  exact ⟨rfl, Kept.refl _ _⟩

end Go.Proofs.YtncfgahnjakeiabDoor
end
section
namespace Go.Proofs.YtncfgahnjakeiabDoor
open Go.RowKit

theorem ibs_any (s : ByteArray) (c : UInt8) (w : World) :
    Calls Tryd.prog 56 #[.string s, .int .u8 c.toNat] w fun e w' => e = .returned (.int .i64 (firstIdx s c)) ∧ w' = w := by
  have h := run_ibs s c.toNat w
  have e : ((c.toNat : Int)).toNat.toUInt8 = c := by simp
  rw [e] at h
  go_enter Tryd.func56, Tryd.ntmps56
  go_wp2
  go_ret
  exact ⟨rfl, rfl⟩
theorem ib_q (s : ByteArray) (c : UInt8) (w : World) :
    Calls Tryd.prog 42 #[.string s, .int .u8 c.toNat] w fun e w' => e = .returned (.int .i64 (firstIdx s c)) ∧ ∃ m, w' = w.drewN m := by
  have h := ibs_any s c w
  go_enter Tryd.func42, Tryd.ntmps42
  go_wp2_with fail
  refine h.mono ?_
  rintro e w1 ⟨rfl, rfl⟩
  go_wp2
  go_ret
  exact ⟨rfl, 0, rfl⟩
theorem idx_in (set : List UInt8) (c : UInt8) : decide (firstIdx ⟨set.toArray⟩ c ≥ 0) = set.contains c := by
  have := firstIdx_nonneg ⟨set.toArray⟩ c
  have e : (set.any fun x => x == c) = set.contains c := by
    rw [Bool.eq_iff_iff]
    simp
  exact this.trans e
theorem idx_out (set : List UInt8) (c : UInt8) : decide (firstIdx ⟨set.toArray⟩ c < 0) = !set.contains c := by
  rw [← idx_in]
  by_cases h : firstIdx ⟨set.toArray⟩ c < 0
  · rw [decide_eq_true h, decide_eq_false (by omega)]; rfl
  · rw [decide_eq_false h, decide_eq_true (by omega)]; rfl

theorem oneOf_any (set : List UInt8) (w : World) :
    Calls Tryd.prog 26 #[sv set] w fun e w' => e = .returned (.func (.func 41) #[] #[.pointer (some ⟨w.heap.size, 0, none⟩)]) ∧ w' = w.alloc (.cells #[sv set] 9) := by
  go_enter Tryd.func26, Tryd.ntmps26
  go_wp2
  go_ret
  exact ⟨rfl, rfl⟩
theorem noneOf_any (set : List UInt8) (w : World) :
    Calls Tryd.prog 44 #[sv set] w fun e w' => e = .returned (.func (.func 58) #[] #[.pointer (some ⟨w.heap.size, 0, none⟩)]) ∧ w' = w.alloc (.cells #[sv set] 9) := by
  go_enter Tryd.func44, Tryd.ntmps44
  go_wp2
  go_ret
  exact ⟨rfl, rfl⟩

theorem oneOf1_any (set : List UInt8) (c : UInt8) (r : List UInt8) (b : Nat) (w : World) (hc : w.cell? ⟨b, 0, none⟩ = some (sv set)) :
    Calls Tryd.prog 41 #[sv (c :: r), .pointer (some ⟨b, 0, none⟩)] w fun e w' => e = .returned (.bool (hdIn set (c :: r))) ∧ ∃ m, w' = w.drewN m := by
  have hib := fun X => ib_q ⟨set.toArray⟩ c X
  have hd := idx_in set c
  have HQ : Hid (hdIn set (c :: r) = set.contains c) := rfl
  obtain ⟨q, hq⟩ : ∃ q, set.contains c = q := ⟨_, rfl⟩
  rw [hq] at hd HQ
  clear hq
  go_enter Tryd.func41, Tryd.ntmps41
  go_wp2_with fail
  go_quiet ((go_at_call 42; exact Calls.quiet_of (hib _)))
  go_wp2
  go_ret
  exact ⟨by rw [HQ.out]; rfl, _, rfl⟩
theorem noneOf1_any (set : List UInt8) (c : UInt8) (r : List UInt8) (b : Nat) (w : World) (hc : w.cell? ⟨b, 0, none⟩ = some (sv set)) :
    Calls Tryd.prog 58 #[sv (c :: r), .pointer (some ⟨b, 0, none⟩)] w fun e w' => e = .returned (.bool (hdOut set (c :: r))) ∧ ∃ m, w' = w.drewN m := by
  have hib := fun X => ib_q ⟨set.toArray⟩ c X
  have hd := idx_out set c
  have HQ : Hid (hdOut set (c :: r) = !set.contains c) := rfl
  obtain ⟨q, hq⟩ : ∃ q, (!set.contains c) = q := ⟨_, rfl⟩
  rw [hq] at hd HQ
  clear hq
  go_enter Tryd.func58, Tryd.ntmps58
  go_wp2_with fail
  go_quiet ((go_at_call 42; exact Calls.quiet_of (hib _)))
  go_wp2
  go_ret
  exact ⟨by rw [HQ.out]; rfl, _, rfl⟩

theorem upTo_cons (p : List UInt8 → Bool) (c : UInt8) (r : List UInt8) : upTo p (c :: r) = if p (c :: r) = true then 0 else upTo p r + 1 := rfl
theorem upTo_drop {p : List UInt8 → Bool} : ∀ (l : List UInt8) (k : Nat), k ≤ upTo p l → upTo p l = k + upTo p (l.drop k)
  | _, 0, _ => by simp
  | [], k + 1, h => by cases h
  | c :: r, k + 1, h => by
    rw [upTo_cons] at h ⊢
    split at h
    · omega
    · rename_i hc
      rw [if_neg hc, upTo_drop r k (by omega), List.drop_succ_cons]
      omega

/-- A call of a function that has a body. -/
theorem enters {f : FuncId} {fn : Func} {c : Code} (hf : Tryd.prog.funcs[f]? = some fn) (hname : (fn.name == "runtime.NumGoroutine") = false) (hb : fn.body = some c) (args : Array Value) (w : World) :
    (callFunc f args).run Tryd.prog w = .ok (.enter f args) w := by
  have hname : ¬ fn.name = "runtime.NumGoroutine" := by simpa using hname
  simp [callFunc, hf, hb, hname]

set_option maxRecDepth 20000 in
set_option maxHeartbeats 1000000 in
/-- cutTo with a function that answers p. -/
theorem cutTo_any (K A : Nat → Prop) (pb : Nat) (st : TS) (w : World) (h : TK K A w pb st) (hKl : ∀ k, K k → k < w.heap.size) (hs : st.pl + st.rest.length ≤ 1000000)
    (p : List UInt8 → Bool) (F : Nat) (caps : Array Value) (hE : ∀ args X, (callFunc F args).run Tryd.prog X = .ok (.enter F args) X)
    (hF : ∀ X, Kept (fun k => k < w.heap.size) w X → ∀ l, l ≠ [] → l.length ≤ 1000000 → Calls Tryd.prog F (#[sv l] ++ caps) X fun e X' => e = .returned (.bool (p l)) ∧ Kept (fun k => k < w.heap.size) X X') :
    Calls Tryd.prog 25 #[.pointer (some ⟨pb, 0, none⟩), .func (.func F) #[] caps] w fun e w' => e = .returned (sv (st.front p)) ∧ TK K A w' pb (st.cutTo p) ∧ Kept K w w' := by
  have H : Hid (∀ X, Kept (fun k => k < w.heap.size) w X → TK K A X pb st) := fun X hX => h.kept hX hKl
  obtain ⟨B, hB⟩ : ∃ B : Nat → Prop, (fun k => k < w.heap.size) = B := ⟨_, rfl⟩
  rw [hB] at H hF
  have hBK : ∀ k, K k → B k := fun k hk => by rw [← hB]; exact hKl k hk
  have HC : Hid (∀ n X, n ≤ st.rest.length → Kept B w X → Calls Tryd.prog 23 #[.pointer (some ⟨pb, 0, none⟩), .int .i64 n] X fun e w' => e = .returned (sv (st.rest.take n)) ∧ TK K A w' pb (st.cut n) ∧ Kept K X w') := fun n X hn hX => cut_any K A pb st X (H.out X hX) n hn hs
  have hul := upTo_le p st.rest
  have HF : Hid (sv (st.front p) = sv (st.rest.take (upTo p st.rest)) ∧ st.cutTo p = st.cut (upTo p st.rest)) := ⟨rfl, rfl⟩
  clear h hB
  go_enter Tryd.func25, Tryd.ntmps25
  go_wp2_with fail
  go_loopg [5] st.rest.length (fun gm i wr => ∃ k : Nat, gm = st.rest.length - k ∧ k ≤ upTo p st.rest ∧ i = .int .i64 k ∧ Kept B w wr)
  case atStart => exact ⟨0, rfl, Nat.zero_le _, rfl, Kept.refl _ _⟩
  case round =>
    obtain ⟨k, hgk, hk, rfl, hkp⟩ := hrel
    obtain ⟨c0, _⟩ := (H.out wr hkp).cells
    by_cases hlt : k < st.rest.length
    · have hne : st.rest.drop k ≠ [] := by rw [List.drop_eq_getElem_cons hlt]; exact List.cons_ne_nil _ _
      have hcall := hF wr hkp (st.rest.drop k) hne (by rw [List.length_drop]; omega)
      have e2 := sv_extract st.rest k st.rest.length
      rw [List.take_length] at e2
      have HU := upTo_drop st.rest k hk
      rw [List.drop_eq_getElem_cons hlt, upTo_cons, ← List.drop_eq_getElem_cons hlt] at HU
      obtain ⟨q, hq⟩ : ∃ q, p (st.rest.drop k) = q := ⟨_, rfl⟩
      rw [hq] at hcall HU
      clear hq hF
      cases q with
      | true =>
        rw [if_pos rfl, Nat.add_zero] at HU
        have HU : Hid (upTo p st.rest = k) := HU
        have hc := fun X hX => HC.out k X (by omega) hX
        clear HC hne
        go_wp2_with fail
        refine hcall.mono ?_
        rintro e w1 ⟨rfl, hk1⟩
        have hk2 := hkp.trans hk1
        have hc := hc w1 hk2
        clear hcall hk1 c0
        go_wp2_with fail
        refine hc.mono ?_
        rintro e w2 ⟨rfl, ht, hk3⟩
        go_wp2
        go_ret
        refine ⟨?_, ?_, (hk2.mono hBK).trans hk3⟩
        · rw [HF.out.1, HU.out]; rfl
        · rw [HF.out.2, HU.out]; exact ht
      | false =>
        rw [if_neg (by decide)] at HU
        have hk' : k + 1 ≤ upTo p st.rest := by omega
        clear HC hne HU HF
        go_wp2_with fail
        refine hcall.mono ?_
        rintro e w1 ⟨rfl, hk1⟩
        have hk2 := hkp.trans hk1
        clear hcall hk1 c0
        go_wp2
        go_roundg (st.rest.length - (k + 1))
        case rel => exact ⟨k + 1, rfl, hk', by go_num, hk2⟩
        case measure => omega
    · have HU : Hid (upTo p st.rest = k) := by show upTo p st.rest = k; omega
      have hc := HC.out k wr (by omega) hkp
      clear HC hF
      go_wp2_with fail
      refine hc.mono ?_
      rintro e w2 ⟨rfl, ht, hk3⟩
      go_wp2
      go_ret
      refine ⟨?_, ?_, (hkp.mono hBK).trans hk3⟩
      · rw [HF.out.1, HU.out]; rfl
      · rw [HF.out.2, HU.out]; exact ht

theorem enter56 (args : Array Value) (X : World) : (callFunc 41 args).run Tryd.prog X = .ok (.enter 41 args) X := enters Tryd.func41 (by kernel_rfl) (c := _) rfl args X
theorem enter88 (args : Array Value) (X : World) : (callFunc 58 args).run Tryd.prog X = .ok (.enter 58 args) X := enters Tryd.func58 (by kernel_rfl) (c := _) rfl args X
theorem enter76 (args : Array Value) (X : World) : (callFunc 50 args).run Tryd.prog X = .ok (.enter 50 args) X := enters Tryd.func50 (by kernel_rfl) (c := _) rfl args X
theorem enter104 (args : Array Value) (X : World) : (callFunc 73 args).run Tryd.prog X = .ok (.enter 73 args) X := enters Tryd.func73 (by kernel_rfl) (c := _) rfl args X

/-- cutTo(oneOf(set)), with the function that oneOf has made. -/
theorem cutOne_any (K A : Nat → Prop) (pb : Nat) (st : TS) (w : World) (h : TK K A w pb st) (hKl : ∀ k, K k → k < w.heap.size) (hs : st.pl + st.rest.length ≤ 1000000) (set : List UInt8) (b : Nat) (hb : b < w.heap.size) (hc : w.cell? ⟨b, 0, none⟩ = some (sv set)) :
    Calls Tryd.prog 25 #[.pointer (some ⟨pb, 0, none⟩), .func (.func 41) #[] #[.pointer (some ⟨b, 0, none⟩)]] w fun e w' => e = .returned (sv (st.front (hdIn set))) ∧ TK K A w' pb (st.cutTo (hdIn set)) ∧ Kept K w w' := by
  refine cutTo_any K A pb st w h hKl hs (hdIn set) 41 _ enter56 fun X hX l hl hll => ?_
  cases l with
  | nil => exact absurd rfl hl
  | cons c r =>
    refine (oneOf1_any set c r b X (by rw [hX.cell (p := ⟨b, 0, none⟩) hb]; exact hc)).mono ?_
    rintro e w' ⟨rfl, m, rfl⟩
    exact ⟨rfl, (Kept.refl _ X).drewN m⟩
theorem cutNone_any (K A : Nat → Prop) (pb : Nat) (st : TS) (w : World) (h : TK K A w pb st) (hKl : ∀ k, K k → k < w.heap.size) (hs : st.pl + st.rest.length ≤ 1000000) (set : List UInt8) (b : Nat) (hb : b < w.heap.size) (hc : w.cell? ⟨b, 0, none⟩ = some (sv set)) :
    Calls Tryd.prog 25 #[.pointer (some ⟨pb, 0, none⟩), .func (.func 58) #[] #[.pointer (some ⟨b, 0, none⟩)]] w fun e w' => e = .returned (sv (st.front (hdOut set))) ∧ TK K A w' pb (st.cutTo (hdOut set)) ∧ Kept K w w' := by
  refine cutTo_any K A pb st w h hKl hs (hdOut set) 58 _ enter88 fun X hX l hl hll => ?_
  cases l with
  | nil => exact absurd rfl hl
  | cons c r =>
    refine (noneOf1_any set c r b X (by rw [hX.cell (p := ⟨b, 0, none⟩) hb]; exact hc)).mono ?_
    rintro e w' ⟨rfl, m, rfl⟩
    exact ⟨rfl, (Kept.refl _ X).drewN m⟩
end Go.Proofs.YtncfgahnjakeiabDoor
end
