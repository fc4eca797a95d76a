/-
  DomGiven: arrays in memory; what Give does, told by its slots.
-/
import Derived.Test.YtbbknbipppaemaaGb
import Derived.Test.YtbbknbipppaemaaFa
namespace Go.Proofs.Ytbbknbipppaemaa
open Go.RowKit
set_option linter.unusedVariables false

def NoGifts (M : Dm) : Prop := ∀ k, M.gf k = Lk.nil
theorem NoGifts.add {M : Dm} (h : NoGifts M) (x : Nd) : NoGifts (M.add x) := fun k => by
  show updL M.gf M.n Lk.nil k = Lk.nil
  unfold updL
  split
  · rfl
  · exact h k
theorem NoGifts.new (l : Nat) : NoGifts (Dm.new l) := NoGifts.add (M := { limit := l, n := 0, nd := fun _ => frag0, pl := fun _ => Lk.nil, gf := fun _ => Lk.nil }) (fun _ => rfl) frag0
theorem NoGifts.wf {M : Dm} (h : NoGifts M) : WFx M.n M.gf := by
  refine ⟨fun _ => [], fun u _ => by rw [h u]; rfl, fun u _ => by rw [h u]; rfl, fun u _ => ?_, fun u _ => List.nodup_nil, fun u _ i hi => (by cases hi), fun i _ => .inl (by rw [h i]; rfl)⟩
  trivial
set_option maxRecDepth 20000 in
set_option maxHeartbeats 1000000 in
theorem plain_gf (N : Nat) (hN : N ≤ 100) (w : World) :
    Calls Try.prog 9 #[.int .i64 (N : Int)] w fun e w' => ∃ p M R rk, e = .returned (.pointer (some ⟨p, 0, none⟩)) ∧ w.heap.size ≤ p ∧ DX (fun k => k < w.heap.size) w' p M ∧ Good M R rk ∧ Divs M N ∧ Side M R N ∧ NoGifts M ∧ Kept (fun k => k < w.heap.size) w w' := by
  have r0 := new_yes 300 w (by decide) (by decide)
  go_enter Try.func9, Try.ntmps9
  go_wp2_with fail
  refine r0.mono ?_
  rintro e w1 ⟨p, rfl, hp, hX1, hK1⟩
  have HX1 : Hid (DX (fun k => k < w.heap.size) w1 p (Dm.new 300)) := hX1
  have HK1 : Hid (Kept (fun k => k < w.heap.size) w w1) := hK1
  clear r0 hX1 hK1
  go_upto_region 3 with fail
  go_loopg [4] N (fun gh v wr => ∃ (j : Nat) (M : Dm) (R : Nat → List Nat) (rk : Nat → Nat), gh = N - j ∧ j ≤ N ∧ v = .int .i64 (j : Int) ∧ DX (fun k => k < w.heap.size) wr p M ∧ Good M R rk ∧ Divs M j ∧ Side M R j ∧ NoGifts M ∧ Kept (fun k => k < w.heap.size) w wr)
  case atStart => exact ⟨0, Dm.new 300, fun _ => [], fun _ => 0, rfl, Nat.zero_le _, rfl, HX1.out, Good.new 300, Divs.new, ⟨rfl, fun _ _ => rfl, rfl⟩, NoGifts.new 300, HK1.out⟩
  case round =>
    clear HX1 HK1
    obtain ⟨j, M, R, rk, hgj, hj, rfl, hX, hG, hD, hS, hNG, hK⟩ := hrel
    have HNG : Hid (NoGifts M) := hNG
    clear hNG
    have HK : Hid (Kept (fun k => k < w.heap.size) w wr) := hK
    by_cases hlt : j < N
    · have rm := make1 (fun k => k < w.heap.size) p M wr 1 1 divB ⟨#[]⟩ [100, 105, 118] [] rfl divB_list empB_list hX (by rw [hD.len]; omega) (by rw [hD.lim]; omega) sound_div (by decide) (by rw [hD.len, hD.lim]; omega)
      rw [hD.len] at rm
      have HRM : Hid (Calls Try.prog 13 #[.pointer (some ⟨p, 0, none⟩), plainV 1 divB ⟨#[]⟩] wr fun e w' => e = .returned (.tuple #[.int .i64 ((j + 1 : Nat) : Int), .int .u16 0]) ∧ DX (fun k => k < w.heap.size) w' p (M.add divN) ∧ Kept (fun k => k < w.heap.size) wr w') := rm
      have hG' := hG.add divN (Nat.zero_le _)
      have hD' := hD.add
      have hF : Fits (M.add divN) 0 (j + 1) (-1) := by
        refine ⟨hD'.hold (by omega), hD'.move (by omega) (by omega), Wi.none (by omega) ?_, .inl rfl⟩
        rw [add_par (by rw [hD.len]; omega)]
        unfold parI
        rw [hS.top, if_pos rfl, hD.zero]
        rfl
      have HF : Hid (Fits (M.add divN) 0 (j + 1) (-1)) := hF
      have HG' : Hid (Good (M.add divN) (updR R M.n []) rk) := hG'
      have HD' : Hid (Divs (M.add divN) (j + 1)) := hD'
      have hS' := Side.next hD hS divN
      have eP : putD (M.add divN) (updR R M.n []) 0 (j + 1) (-1) = putL (M.add divN).pl 0 (j + 1) (-1) := by
        unfold putD
        rw [if_neg (hD'.kind (by omega) (by omega)), if_neg (by omega)]
      have eR : putDR (M.add divN) (updR R M.n []) 0 (j + 1) (-1) = putR (M.add divN).pl (updR R M.n []) 0 (j + 1) (-1) := by
        unfold putDR
        rw [if_neg (hD'.kind (by omega) (by omega)), if_neg (by omega)]
      obtain ⟨rk2, hG2⟩ := hG'.ins (up := 0) (i := j + 1) (bef := -1) (by show 0 < M.n + 1; omega) (by show j + 1 < M.n + 1; rw [hD.len]; omega) hF
      have HG2 : Hid (Good ((M.add divN).setP (putL (M.add divN).pl 0 (j + 1) (-1))) (putR (M.add divN).pl (updR R M.n []) 0 (j + 1) (-1)) rk2) := by rw [eP, eR] at hG2; exact hG2
      have HS' : Hid (Side ((M.add divN).setP (putL (M.add divN).pl 0 (j + 1) (-1))) (putR (M.add divN).pl (updR R M.n []) 0 (j + 1) (-1)) (j + 1)) := hS'
      have HEP : Hid (putD (M.add divN) (updR R M.n []) 0 (j + 1) (-1) = putL (M.add divN).pl 0 (j + 1) (-1)) := eP
      have HML : Hid (M.n = j + 1) := hD.len
      clear rm hX hG hD hS hK hG' hD' hF hS' eP eR hG2
      go_wp2_with fail
      refine HRM.out.mono ?_
      rintro e w2 ⟨rfl, hX2, hK2⟩
      have HK2 : Hid (Kept (fun k => k < w.heap.size) w w2) := HK.out.trans hK2
      have ri := insert_in (fun k => k < w.heap.size) p 0 (j + 1) (-1) (M.add divN) (updR R M.n []) rk w2 hX2 HG'.out.wf HG'.out.acy (by show 0 < M.n + 1; omega) (by show j + 1 < M.n + 1; rw [HML.out]; omega) (.inl rfl) (by show M.n + 1 ≤ _; rw [HML.out]; omega)
      have HRI : Hid (Calls Try.prog 14 #[.pointer (some ⟨p, 0, none⟩), .int .i64 0, .int .i64 ((j + 1 : Nat) : Int), .int .i64 (-1)] w2 fun e w' => e = .returned (.int .u16 0) ∧ DX (fun k => k < w.heap.size) w' p ((M.add divN).setP (putL (M.add divN).pl 0 (j + 1) (-1))) ∧ Kept (fun k => k < w.heap.size) w2 w') := ri.mono fun e w' h => by
        rcases h with ⟨hK, ⟨_, h, _⟩ | ⟨h1, _, h2⟩⟩
        · exact absurd HF.out h
        · rw [HEP.out] at h2
          exact ⟨h1, h2, hK⟩
      clear ri hX2 hK2 HRM
      go_wp2_with fail
      refine HRI.out.mono ?_
      rintro e w3 ⟨rfl, hX3, hK3⟩
      have HK3 : Hid (Kept (fun k => k < w.heap.size) w w3) := HK2.out.trans hK3
      have HX3 : Hid (DX (fun k => k < w.heap.size) w3 p ((M.add divN).setP (putL (M.add divN).pl 0 (j + 1) (-1)))) := hX3
      clear hX3 hK3 HRI
      go_wp2
      go_roundg (N - (j + 1))
      case rel => exact ⟨j + 1, _, _, rk2, rfl, by omega, by go_num, HX3.out, HG2.out, HD'.out.setP _, HS'.out, HNG.out.add divN, HK3.out⟩
      case measure => omega
    · have hjN : j = N := by omega
      subst hjN
      have HX : Hid (DX (fun k => k < w.heap.size) wr p M) := hX
      have HR : Hid (Good M R rk ∧ Divs M j ∧ Side M R j) := ⟨hG, hD, hS⟩
      clear hX hG hD hS hK
      go_wp2
      go_ret
      exact ⟨p, M, R, rk, rfl, hp, HX.out, HR.out.1, HR.out.2.1, HR.out.2.2, HNG.out, HK.out⟩
/-- A row of integers that grows beside a document. -/
theorem own_appK {K0 : Nat → Prop} {w : World} {p : Nat} {M : Dm} {ao : Option Addr} {n cap : Nat} {xs : List Value} (hX : DX (fun k => K0 k ∨ blkOf ao k) w p M) (hB : ∀ k, K0 k → k < w.heap.size) (hO : OwnZ K0 w 3 1 ao n cap xs) (hn : n ≤ 1000000) (x : Int) :
    ∃ ao' cap' w', (Builtin.append_ #[32, 32] 32 #[.slice ao n cap, .slice (some ⟨w.heap.size, 0, none⟩) 1 1]).run Try.prog (w.alloc (.cells #[.int .i64 x] 3)) = .ok (.slice ao' (n + 1) cap') w' ∧ OwnZ K0 w' 3 1 ao' (n + 1) cap' (xs ++ [.int .i64 x]) ∧ DX (fun k => K0 k ∨ blkOf ao' k) w' p M ∧ Kept K0 w w' := by
  have hO' : OwnZ (fun k => k < w.heap.size ∧ ¬ blkOf ao k) w 3 1 ao n cap xs := OwnZ.to hO (fun g hg hh => hh.2 hg) (fun _ _ => rfl)
  obtain ⟨ao', cap', w', hr, hO2, hk⟩ := appI hO' (fun k hk => hk.1) (by omega) x
  have hnew : ∀ g, blkOf ao' g → blkOf ao g ∨ w.heap.size ≤ g := fun g hg => by
    have := (OwnZ.out hO2 hg).1
    by_cases hb : blkOf ao g
    · exact .inl hb
    · exact .inr (Nat.le_of_not_lt fun hl => this ⟨hl, hb⟩)
  have hkB : Kept K0 w w' := hk.mono fun k hk' => ⟨hB k hk', fun hb => (OwnZ.out hO hb).1 hk'⟩
  obtain ⟨ga, gc, hY⟩ := hX
  have hY' := hY.keptBut (hk.mono fun k hk' => ⟨hk'.1, fun hb => hk'.2 (.inr hb)⟩)
  refine ⟨ao', cap', w', hr, OwnZ.to hO2 (fun g hg hh => ?_) (fun _ _ => rfl), ⟨ga, gc, ?_⟩, hkB⟩
  · rcases hnew g hg with h | h
    · exact (OwnZ.out hO h).1 hh
    · have := hB g hh
      omega
  · -- the new block is none of the document's
    obtain ⟨h1, h2, h3, ys, aa, ac, ho, hx, ha, hs⟩ := hY'
    obtain ⟨i1, i2, i3, ys', aa', ac', ho', hx', ha', hs'⟩ := hY
    have hsz := hk.size
    have key : ∀ g, (blkOf ao' g) → g < w.heap.size → blkOf ao g := fun g hg hl => by
      rcases hnew g hg with h | h
      · exact h
      · omega
    have hpw := lt_block i3
    refine ⟨fun k hk' => ?_, fun hh => ?_, h3, ys', aa', ac', OwnZ.to ho' (fun g hg hh => ?_) (fun g hg => hk.block g ⟨(ho'.out hg).2, fun hb => (ho'.out hg).1 (.inl (.inr hb))⟩), hx', fun i hi => OwnZ.to (ha' i hi) (fun g hg hh => ?_) (fun g hg => hk.block g ⟨((ha' i hi).out hg).2, fun hb => ((ha' i hi).out hg).1 (.inl (.inr hb))⟩), hs'⟩
    · rcases hk' with h | h
      · have := hB k h
        omega
      · exact (OwnZ.out hO2 h).2
    · rcases hh with h | h
      · exact i2 (.inl h)
      · exact i2 (.inr (key p h hpw))
    · rcases hh with (h | h) | h
      · exact (ho'.out hg).1 (.inl (.inl h))
      · exact (ho'.out hg).1 (.inl (.inr (key g h (ho'.out hg).2)))
      · exact (ho'.out hg).1 (.inr h)
    · rcases hh with (h | h) | h
      · exact ((ha' i hi).out hg).1 (.inl (.inl h))
      · exact ((ha' i hi).out hg).1 (.inl (.inr (key g h ((ha' i hi).out hg).2)))
      · exact ((ha' i hi).out hg).1 (.inr h)


/-- Give, told by the slots. -/
theorem give_up (K : Nat → Prop) (p slot : Nat) (l : List Nat) (n : Nat) (hln : l.length = n) (a : Option Addr) (cap : Nat) (S : Dm) (w : World) (h : DX K w p S) (hW : WFx S.n S.gf) (hG : GiveOk S slot l) (hn : S.n ≤ 1000000) (hr : RowI w a l) (hra : ∀ g o, a = some ⟨g, o, none⟩ → l ≠ [] → K g) :
    Calls Try.prog 18 #[.pointer (some ⟨p, 0, none⟩), .int .i64 (slot : Int), .slice a n cap] w fun e w' => e = .returned (.int .u16 0) ∧ ∃ L, DX K w' p (S.setG L) ∧ WFx S.n L ∧ (∀ k, k < S.n → (L k).up = if k ∈ l then (slot : Int) else if (S.gf k).up = (slot : Int) then -1 else (S.gf k).up) ∧ Kept K w w' := by
  obtain ⟨G, hW⟩ := hW
  refine (give_ok K p slot l n hln a cap S G w h hW hG hn hr hra).mono ?_
  rintro e w' ⟨he, hX, hK⟩
  refine ⟨he, _, hX, WFx.adds hG.slt l (WFx.outs (G slot) ⟨G, hW⟩ (hW.lt slot hG.slt)) (fun i hi => (hG.all i hi).1), fun k hk => ?_, hK⟩
  rw [adds_up, outs_up]
  by_cases c : k ∈ l
  · rw [if_pos c, if_pos c]
  · rw [if_neg c, if_neg c]
    by_cases c2 : k ∈ G slot
    · rw [if_pos c2, if_pos (hW.up hG.slt c2)]
    · rw [if_neg c2]
      have c3 : ¬ (S.gf k).up = (slot : Int) := fun e => by
        rcases hW.inn k hk with h | ⟨u, hu, h1, h2⟩
        · omega
        · have : u = slot := by omega
          subst this
          exact c2 h2
      rw [if_neg c3]

/-- Integers in one block. -/
def Arr (w : World) (b : Nat) (ty : TypeId) (n : Nat) (f : Nat → Int) : Prop := w.heap[b]? = some (.cells ((List.range n).map fun t => Value.int .i64 (f t)).toArray ty (0, 0))
theorem Arr.cell {w : World} {b : Nat} {ty : TypeId} {n : Nat} {f : Nat → Int} (h : Arr w b ty n f) {t : Nat} (ht : t < n) : w.cell? ⟨b, t, none⟩ = some (.int .i64 (f t)) := by
  rw [cell_block h]
  simp [ht]
theorem Arr.lt {w : World} {b : Nat} {ty : TypeId} {n : Nat} {f : Nat → Int} (h : Arr w b ty n f) : b < w.heap.size := lt_block h
theorem Arr.kept {K : Nat → Prop} {w w' : World} {b : Nat} {ty : TypeId} {n : Nat} {f : Nat → Int} (h : Arr w b ty n f) (k : Kept K w w') (hb : K b) : Arr w' b ty n f := by
  unfold Arr
  rw [k.block b hb]; exact h
theorem Arr.congr {w : World} {b : Nat} {ty : TypeId} {n : Nat} {f f' : Nat → Int} (h : Arr w b ty n f) (e : ∀ t, t < n → f t = f' t) : Arr w b ty n f' := by
  unfold Arr at h ⊢
  rw [h]
  congr 3
  exact List.map_congr_left fun t ht => by rw [e t (List.mem_range.1 ht)]
theorem Arr.set {w : World} {b : Nat} {ty : TypeId} {n : Nat} {f : Nat → Int} (h : Arr w b ty n f) (x : Nat) (v : Int) : Arr (w.setCell ⟨b, x, none⟩ (.int .i64 v)) b ty n (fun t => if t = x then v else f t) := by
  unfold Arr at h ⊢
  rw [heap_setCell_at h]
  congr 2
  apply Array.ext'
  rw [Array.toList_setIfInBounds]
  apply List.ext_getElem?
  intro t
  rw [List.getElem?_set]
  by_cases c : x = t
  · subst c
    by_cases hx : x < n
    · simp [hx]
    · simp [hx]
  · by_cases ht : t < n
    · simp [c, ht, Ne.symm c]
    · simp [c, ht]
/-- A store into a block that is none of the document's. -/
theorem DX.store {K : Nat → Prop} {w : World} {p : Nat} {M : Dm} (h : DX K w p M) {b : Nat} (hb : K b) (x : Nat) (v : Value) : DX K (w.setCell ⟨b, x, none⟩ v) p M := by
  obtain ⟨ga, gc, hY⟩ := h
  exact ⟨ga, gc, hY.keptBut ((Kept.refl _ w).setCell (p := ⟨b, x, none⟩) (fun hh => hh.2 hb) v)⟩
theorem OwnZ.store {K : Nat → Prop} {w : World} {e : TypeId} {z : Nat} {ao : Option Addr} {n cap : Nat} {xs : List Value} (h : OwnZ K w e z ao n cap xs) {b : Nat} (hb : K b) (x : Nat) (v : Value) : OwnZ K (w.setCell ⟨b, x, none⟩ v) e z ao n cap xs :=
  OwnZ.to h (fun g hg => (OwnZ.out h hg).1) (fun g hg => ((Kept.refl (fun k => k ≠ b) w).setCell (p := ⟨b, x, none⟩) (fun hh => hh rfl) v).block g (fun e => (OwnZ.out h hg).1 (e ▸ hb)))
end Go.Proofs.Ytbbknbipppaemaa
