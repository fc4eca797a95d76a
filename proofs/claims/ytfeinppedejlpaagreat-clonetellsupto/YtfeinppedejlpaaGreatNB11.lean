/-
 Doc.within and Doc.fits: what is within what.; Doc.put and Doc.Insert.; The walks of Doc.put and Doc.Insert.
-/
import Derived.Test.YtfeinppedejlpaaGreatNB09
import Derived.Test.YtfeinppedejlpaaGreatNB08
namespace Go.Proofs.YtfeinppedejlpaaGreat
set_option linter.unusedVariables false
set_option maxRecDepth 100000
set_option maxHeartbeats 8000000
section
open Go.RowKit
def zbl (S : Dm) (k : Nat) : Int := if (S.pl k).up = -1 then (S.nd k).host else (S.pl k).up
inductive Wi (S : Dm) (i : Nat) : Nat -> Prop
 | here : Wi S i i
 | up {k m : Nat} : zbl S k = (m : Int) -> Wi S i m -> Wi S i k
def Acy (S : Dm) (rk : Nat -> Nat) : Prop := ∀ k, k < S.n -> zbl S k = -1 \/ ∃ m : Nat, m < S.n /\ zbl S k = (m : Int) /\ rk m < rk k
theorem Wi.step {S : Dm} {i k m : Nat} (hki : k ≠ i) (hp : zbl S k = (m : Int)) : Wi S i k ↔ Wi S i m := by
 constructor
 ·intro h
  cases h with
  | here => exact absurd rfl hki
  | up e h =>
   have : m = _ := Int.ofNat.inj (hp.symm.trans e)
   rw [this]; exact h
 ·exact Wi.up hp
theorem Wi.none {S : Dm} {i k : Nat} (hki : k ≠ i) (hp : zbl S k = -1) : ¬ Wi S i k := by
 intro h
 cases h with
 | here => exact hki rfl
 | up e h => omega
theorem zk4 (K : Nat -> Prop) (p g cap at_ i : Nat) (S : Dm) (rk : Nat -> Nat) (w : World) (h : DY K w p S (some ⟨g, 0, none⟩) cap) (ha : Acy S rk) (hat : at_ < S.n) (hi : i < S.n) (hn : S.n <= 1000000000) :
  Calls Tryz.prog 225 #[.pointer (some ⟨p, 0, none⟩), .int .i64 (at_ : Int), .int .i64 (i : Int)] w fun e w' => ∃ b : Bool, e = .returned (.bool b) /\ (b = true ↔ Wi S i at_) /\ w' = w := by
 have c1 := h.c1
 have hcell : ∀ k, k < S.n -> w.cell? ⟨g, k * 22 + 12, none⟩ = some (.int .i64 (S.pl k).up) /\ w.cell? ⟨g, k * 22 + 10, none⟩ = some (.int .i64 (S.nd k).host) := fun k hk => by
  obtain ⟨aa, ac, hc, -⟩ := h.cell hk
  exact ⟨hc 12 _ rfl, hc 10 _ rfl⟩
 obtain ⟨n, hne⟩ : ∃ n, S.n = n := ⟨_, rfl⟩
 have HA : Hid (∀ k, k < n -> zbl S k = -1 \/ ∃ m : Nat, m < n /\ zbl S k = (m : Int) /\ rk m < rk k) := by rw [<- hne]; exact ha
 have HC : Hid (∀ k, k < n -> w.cell? ⟨g, k * 22 + 12, none⟩ = some (.int .i64 (S.pl k).up) /\ w.cell? ⟨g, k * 22 + 10, none⟩ = some (.int .i64 (S.nd k).host)) := by rw [<- hne]; exact hcell
 rw [hne] at c1 hat hi hn
 clear h ha hcell hne
 go_enter Tryz.func225, Tryz.ntmps225
 go_wp2
 go_step3
 go_wp2
 go_step3
 go_wp2_with fail
 go_loopg [1] (rk at_) (fun gh v wr => ∃ k : Nat, gh = rk k /\ k < n /\ v = .int .i64 (k : Int) /\ (Wi S i at_ ↔ Wi S i k) /\ wr = w)
 case atStart => exact ⟨at_, rfl, hat, rfl, Iff.rfl, rfl⟩
 case round =>
  obtain ⟨k, hgk, hk, rfl, hiff, rfl⟩ := hrel
  have HI : Hid (Wi S i at_ ↔ Wi S i k) := hiff
  clear hiff
  by_cases cki : k = i
  ·subst cki
   go_wp2
   try rw [Exit.noGoto_ret]
   go_ret
   exact ⟨true, by simp, by rw [HI.out]; exact ⟨fun _ => .here, fun _ => rfl⟩, rfl⟩
  ·have e1 : ((k : Int) == (i : Int)) = false := by simp; omega
   have e2 : ((k : Int) != (i : Int)) = true := by simp; omega
   obtain ⟨d0, d1⟩ := HC.out k hk
   have hpar := HA.out k hk
   by_cases cu : (S.pl k).up = -1
   ·rw [cu] at d0
    have hpe : zbl S k = (S.nd k).host := if_pos cu
    by_cases ch : (S.nd k).host = -1
    ·rw [ch] at d1
     have hno : ¬ Wi S i k := Wi.none cki (hpe.trans ch)
     have HNO : Hid (¬ Wi S i k) := hno
     clear hpar hno hpe cu ch
     go_wp2
     try rw [Exit.noGoto_ret]
     go_ret
     exact ⟨false, by simp, by rw [HI.out]; exact ⟨fun h => (by cases h), fun h => absurd h HNO.out⟩, rfl⟩
    ·rcases hpar with h0 | ⟨m, hm, hpm, hrk⟩
     ·exact absurd (hpe.symm.trans h0) ch
     have hm' : (S.nd k).host = (m : Int) := hpe.symm.trans hpm
     rw [hm'] at d1
     have e3 : ((m : Int) == -1) = false := by simp
     have e4 : ((m : Int) != -1) = true := by simp
     have HI2 : Hid (Wi S i at_ ↔ Wi S i m) := HI.out.trans (Wi.step cki hpm)
     clear hpm hpe cu ch hm' HI
     go_wp2
     go_roundg (rk m)
     case rel => exact ⟨m, rfl, hm, rfl, HI2.out, rfl⟩
     case measure => rw [hgk]; exact hrk
   ·have hpe : zbl S k = (S.pl k).up := if_neg cu
    rcases hpar with h0 | ⟨m, hm, hpm, hrk⟩
    ·exact absurd (hpe.symm.trans h0) cu
    have hm' : (S.pl k).up = (m : Int) := hpe.symm.trans hpm
    rw [hm'] at d0
    have e3 : ((m : Int) == -1) = false := by simp
    have e4 : ((m : Int) != -1) = true := by simp
    have HI2 : Hid (Wi S i at_ ↔ Wi S i m) := HI.out.trans (Wi.step cki hpm)
    clear hpm hpe cu hm' HI
    go_wp2
    go_roundg (rk m)
    case rel => exact ⟨m, rfl, hm, rfl, HI2.out, rfl⟩
    case measure => rw [hgk]; exact hrk
def Fits (S : Dm) (up i : Nat) (bef : Int) : Prop := zbp (S.nd up) = true /\ zfx S i = true /\ ¬ Wi S i up /\ (bef = -1 \/ ∃ m : Nat, m < S.n /\ bef = (m : Int) /\ (S.pl m).up = (up : Int))
theorem zph (K : Nat -> Prop) (p g cap up i : Nat) (bef : Int) (S : Dm) (rk : Nat -> Nat) (w : World) (h : DY K w p S (some ⟨g, 0, none⟩) cap) (ha : Acy S rk) (hu : up < S.n) (hi : i < S.n) (hb : bef = -1 \/ ∃ m : Nat, m < S.n /\ bef = (m : Int)) (hn : S.n <= 1000000000) :
  Calls Tryz.prog 150 #[.pointer (some ⟨p, 0, none⟩), .int .i64 (up : Int), .int .i64 (i : Int), .int .i64 bef] w fun e w' => ∃ b : Bool, e = .returned (.bool b) /\ (b = true ↔ Fits S up i bef) /\ Kept (fun k => k < w.heap.size) w w' := by
 obtain ⟨aa, ac, hc, -⟩ := h.cell hu
 have c0 : w.cell? ⟨g, up * 22, none⟩ = some (.int .u8 ((S.nd up).kind : Int)) := hc 0 _ rfl
 have c1' : w.cell? ⟨g, up * 22 + 1, none⟩ = some (sv (S.nd up).name) := hc 1 _ rfl
 have rh := zi2 g (up * 22) (S.nd up) w c0 c1'
 have rm := fun X (hX : Kept (fun k => k < w.heap.size) w X) => zio K p g cap i S X (h.kept hX) hi hn
 have rw' := fun X (hX : Kept (fun k => k < w.heap.size) w X) => zk4 K p g cap up i S rk X (h.kept hX) ha hu hi hn
 have HY : Hid (DY K w p S (some ⟨g, 0, none⟩) cap) := h
 have c1 := h.c1
 obtain ⟨n, hne⟩ : ∃ n, S.n = n := ⟨_, rfl⟩
 have HNE : Hid (S.n = n) := hne
 have HB : Hid (bef = -1 \/ ∃ m : Nat, m < n /\ bef = (m : Int)) := by rw [<- hne]; exact hb
 rw [hne] at c1 hu hi hn
 have HR : Hid (∀ X, Kept (fun k => k < w.heap.size) w X -> Calls Tryz.prog 225 #[.pointer (some ⟨p, 0, none⟩), .int .i64 (up : Int), .int .i64 (i : Int)] X fun e w' => ∃ b : Bool, e = .returned (.bool b) /\ (b = true ↔ Wi S i up) /\ w' = X) := rw'
 have HM : Hid (∀ X, Kept (fun k => k < w.heap.size) w X -> Calls Tryz.prog 224 #[.pointer (some ⟨p, 0, none⟩), .int .i64 (i : Int)] X fun e w' => e = .returned (.bool (zfx S i)) /\ w' = X) := rm
 obtain ⟨v, hv⟩ : ∃ v, zbp (S.nd up) = v := ⟨_, rfl⟩
 have HV : Hid (zbp (S.nd up) = v) := hv
 rw [hv] at rh
 clear h ha hc c0 c1' hne hb rm rw' hv
 go_enter Tryz.func150, Tryz.ntmps150
 go_wp2_with fail
 refine rh.mono ?_
 rintro e w1 ⟨rfl, k1⟩
 have HK1 : Hid (Kept (fun k => k < w.heap.size) w w1) := k1
 clear rh c1
 cases v with
 | false =>
  go_wp2
  go_ret
  exact ⟨false, by simp, ⟨fun h => (by cases h), fun h => (by have := h.1; rw [HV.out] at this; cases this)⟩, HK1.out⟩
 | true =>
  obtain ⟨mv, hmv⟩ : ∃ v, zfx S i = v := ⟨_, rfl⟩
  have r1 := HM.out w1 HK1.out
  rw [hmv] at r1
  have HMV : Hid (zfx S i = mv) := hmv
  have r2 := HR.out w1 HK1.out
  clear hmv
  go_wp2_with fail
  refine r1.mono ?_
  rintro e w2 ⟨rfl, hw2⟩
  subst hw2
  clear r1
  cases mv with
  | false =>
   go_wp2
   go_ret
   exact ⟨false, by simp, ⟨fun h => (by cases h), fun h => (by have := h.2.1; rw [HMV.out] at this; cases this)⟩, HK1.out⟩
  | true =>
   go_wp2_with fail
   refine r2.mono ?_
   rintro e w3 ⟨b, rfl, hbw, hw3⟩
   subst hw3
   have HBW : Hid (b = true ↔ Wi S i up) := hbw
   clear r2 hbw
   cases b with
   | true =>
    go_wp2
    go_ret
    exact ⟨false, by simp, ⟨fun h => (by cases h), fun h => absurd (HBW.out.1 (by simp)) h.2.2.1⟩, HK1.out⟩
   | false =>
    have hnw : ¬ Wi S i up := fun hh => by have := HBW.out.2 hh; simp at this
    have HNW : Hid (¬ Wi S i up) := hnw
    clear hnw
    by_cases cb : bef = -1
    ·subst cb
     go_wp2
     go_ret
     exact ⟨true, by simp, ⟨fun _ => ⟨HV.out, HMV.out, HNW.out, .inl rfl⟩, fun _ => rfl⟩, HK1.out⟩
    ·rcases HB.out with h0 | ⟨m, hm, hbm⟩
     ·exact absurd h0 cb
     subst hbm
     have e3 : ((m : Int) == -1) = false := by simp
     have hY := HY.out.kept HK1.out
     have c1 : w3.cell? ⟨p, 1, none⟩ = some (.slice (some ⟨g, 0, none⟩) n cap) := by have := hY.c1; rw [HNE.out] at this; exact this
     obtain ⟨d0, -, -, -, -⟩ := hY.pcell (i := m) (by rw [HNE.out]; exact hm)
     by_cases cu : (S.pl m).up = (up : Int)
     ·rw [cu] at d0
      have HCU : Hid ((S.pl m).up = (up : Int)) := cu
      clear cb hY cu
      go_wp2
      go_ret
      exact ⟨true, by simp, ⟨fun _ => ⟨HV.out, HMV.out, HNW.out, .inr ⟨m, by rw [HNE.out]; exact hm, rfl, HCU.out⟩⟩, fun _ => rfl⟩, HK1.out⟩
     ·obtain ⟨z, hz⟩ : ∃ z, (S.pl m).up = z := ⟨_, rfl⟩
      rw [hz] at d0 cu
      have e4 : (z == (up : Int)) = false := by simpa using cu
      have HZ : Hid ((S.pl m).up = z /\ z ≠ (up : Int)) := ⟨hz, cu⟩
      clear cb hY cu hz
      go_wp2
      go_ret
      refine ⟨false, by simp, ⟨fun h => (by cases h), fun h => ?_⟩, HK1.out⟩
      rcases h.2.2.2 with h1 | ⟨q, hq, hmq, hqu⟩
      ·exact absurd h1 (by omega)
      ·have : m = q := by omega
       subst this
       exact absurd (HZ.out.1.symm.trans hqu) HZ.out.2
end
section
open Go.RowKit
def zqy (l : List Nat) (i : Nat) (bef : Int) : List Nat := l.takeWhile (fun k : Nat => decide ((k : Int) ≠ bef)) ++ i :: l.dropWhile (fun k : Nat => decide ((k : Int) ≠ bef))
def putR (L : Nat -> Lk) (R : Nat -> List Nat) (up i : Nat) (bef : Int) : Nat -> List Nat := zax (zcy L R i) up (zqy (zcy L R i up) i bef)
theorem zrb {l : List Nat} {bef : Int} {a b : List Nat} (h : At l bef a b) (hn : l.Nodup) : a = l.takeWhile (fun k : Nat => decide ((k : Int) ≠ bef)) /\ b = l.dropWhile (fun k : Nat => decide ((k : Int) ≠ bef)) := by
 cases h with
 | last e =>
  subst e
  have : ∀ l : List Nat, l.takeWhile (fun k : Nat => decide ((k : Int) ≠ -1)) = l /\ l.dropWhile (fun k : Nat => decide ((k : Int) ≠ -1)) = [] := by
   intro l
   induction l with
   | nil => exact ⟨rfl, rfl⟩
   | cons x r ih =>
    have e : decide ((x : Int) ≠ -1) = true := decide_eq_true (by omega)
    rw [List.takeWhile_cons, List.dropWhile_cons, e, if_pos rfl, if_pos rfl, ih.1]
    exact ⟨rfl, ih.2⟩
  exact ⟨(this l).1.symm, (this l).2.symm⟩
 | @mid _ b' m e el =>
  subst e
  subst el
  have : ∀ a : List Nat, (a ++ m :: b').Nodup -> (a ++ m :: b').takeWhile (fun k : Nat => decide ((k : Int) ≠ (m : Int))) = a /\ (a ++ m :: b').dropWhile (fun k : Nat => decide ((k : Int) ≠ (m : Int))) = m :: b' := by
   intro a
   induction a with
   | nil =>
    intro _
    have e : decide ((m : Int) ≠ (m : Int)) = false := decide_eq_false (fun h => h rfl)
    rw [List.nil_append, List.takeWhile_cons, List.dropWhile_cons, e]
    exact ⟨rfl, rfl⟩
   | cons x r ih =>
    intro hnd
    have hnd' := List.nodup_cons.1 hnd
    have hx : x ≠ m := fun e => hnd'.1 (e ▸ List.mem_append_right _ (List.mem_cons_self ..))
    have e : decide ((x : Int) ≠ (m : Int)) = true := decide_eq_true (by omega)
    rw [List.cons_append, List.takeWhile_cons, List.dropWhile_cons, e, if_pos rfl, if_pos rfl, (ih hnd'.2).1]
    exact ⟨rfl, (ih hnd'.2).2⟩
  exact ⟨(this a hn).1.symm, (this a hn).2.symm⟩
theorem WF.putR {n : Nat} {L : Nat -> Lk} {R : Nat -> List Nat} (h : WF n L R) {up i : Nat} (hu : up < n) (hi : i < n) {bef : Int} (hb : Zfq n L up i bef) : WF n (zdn L up i bef) (putR L R up i bef) := by
 obtain ⟨a, b, ha⟩ := zmc h hu hi hb
 have := h.putOk hu hi ha
 obtain ⟨e1, e2⟩ := zrb ha ((h.out hi).nodup up hu)
 unfold YtfeinppedejlpaaGreat.putR zqy
 rw [<- e1, <- e2]
 exact this
theorem zd5 {L : Nat -> Lk} {up i k : Nat} {bef : Int} (h : k ≠ i) : (zdn L up i bef k).up = (L k).up := by
 unfold zdn inL
 dsimp only
 rw [if_neg h, zdi h]
theorem zb6 {L : Nat -> Lk} {up i : Nat} {bef : Int} : (zdn L up i bef i).up = (up : Int) := by
 unfold zdn inL
 dsimp only
 rw [if_pos rfl]
theorem WF.next_up {n : Nat} {L : Nat -> Lk} {R : Nat -> List Nat} (h : WF n L R) {i u : Nat} (hi : i < n) (hu : (L i).up = (u : Int)) : (L i).next = -1 \/ ∃ m : Nat, m < n /\ m ≠ i /\ (L i).next = (m : Int) /\ (L m).up = (u : Int) := by
 rcases h.inn i hi with h0 | ⟨v, hv, h1, h2⟩
 ·omega
 have : v = u := by omega
 subst this
 obtain ⟨a, b, e⟩ := zc5 h2
 obtain ⟨hp, hq⟩ := h.split hv e
 have hnd := h.nodup v hv
 have hib : i ∉ b := by
  rw [e] at hnd
  exact (List.nodup_cons.1 (List.nodup_append.1 hnd).2.1).1
 rw [hq]
 rcases zd0 b with ⟨-, e1⟩ | ⟨m, m1, e1⟩
 ·exact .inl e1
 ·have hm : m ∈ R v := by rw [e]; exact List.mem_append_right _ (List.mem_cons_of_mem _ m1)
  exact .inr ⟨m, h.lt v hv m hm, fun e => hib (e ▸ m1), e1, h.up hv hm⟩
def zb9 (L : Nat -> Lk) (up : Nat) (bef : Int) : List Nat -> Nat -> Lk
 | [] => L
 | k :: r => zb9 (zdn L up k bef) up bef r
def zic (L : Nat -> Lk) (R : Nat -> List Nat) (up : Nat) (bef : Int) : List Nat -> Nat -> List Nat
 | [] => R
 | k :: r => zic (zdn L up k bef) (putR L R up k bef) up bef r
def zd8 (S : Dm) (R : Nat -> List Nat) (up i : Nat) (bef : Int) : Nat -> Lk := if (S.nd i).kind = 4 then zb9 S.pl up bef (R i) else zdn S.pl up i (if bef = (i : Int) then (S.pl i).next else bef)
def zdl (S : Dm) (R : Nat -> List Nat) (up i : Nat) (bef : Int) : Nat -> List Nat := if (S.nd i).kind = 4 then zic S.pl R up bef (R i) else putR S.pl R up i (if bef = (i : Int) then (S.pl i).next else bef)
structure FrS (n up i : Nat) (bef : Int) (L : Nat -> Lk) (R : Nat -> List Nat) (rest : List Nat) : Prop where
 wf : WF n L R
 row : R i = rest
 hu : up < n
 hi : i < n
 ne : up ≠ i
 no : ∀ k ∈ rest, k ≠ i /\ k ≠ up
 bef : bef = -1 \/ ∃ m : Nat, m < n /\ bef = (m : Int) /\ (L m).up = (up : Int)
theorem FrS.ok {n up i : Nat} {bef : Int} {L : Nat -> Lk} {R : Nat -> List Nat} {k : Nat} {rest : List Nat} (h : FrS n up i bef L R (k :: rest)) : k < n /\ up ≠ k /\ Zfq n L up k bef := by
 have hk : k ∈ R i := by rw [h.row]; exact List.mem_cons_self ..
 have hup := h.wf.up h.hi hk
 refine ⟨h.wf.lt i h.hi k hk, fun e => (h.no k (List.mem_cons_self ..)).2 e.symm, ?_⟩
 rcases h.bef with hb | ⟨m, hm, e, hmu⟩
 ·exact .inl hb
 ·exact .inr ⟨m, hm, fun e' => by subst e'; rw [hup] at hmu; exact h.ne (by omega), e, hmu⟩
theorem FrS.next {n up i : Nat} {bef : Int} {L : Nat -> Lk} {R : Nat -> List Nat} {k : Nat} {rest : List Nat} (h : FrS n up i bef L R (k :: rest)) : FrS n up i bef (zdn L up k bef) (YtfeinppedejlpaaGreat.putR L R up k bef) rest := by
 obtain ⟨hk, huk, hb⟩ := h.ok
 have hkm : k ∈ R i := by rw [h.row]; exact List.mem_cons_self ..
 have hup := h.wf.up h.hi hkm
 refine ⟨h.wf.putR h.hu hk hb, ?_, h.hu, h.hi, h.ne, fun j hj => h.no j (List.mem_cons_of_mem _ hj), ?_⟩
 ·unfold YtfeinppedejlpaaGreat.putR
  rw [zaj _ _ (fun e => h.ne e.symm)]
  unfold zcy
  rw [if_neg (by rw [hup]; omega), hup, Int.toNat_natCast, zaf, h.row, List.erase_cons_head]
 ·rcases hb with hb | ⟨m, hm, hmk, e, hmu⟩
  ·exact .inl hb
  ·exact .inr ⟨m, hm, e, by rw [zd5 hmk]; exact hmu⟩
theorem FrS.all {n up i : Nat} {bef : Int} (rest : List Nat) : ∀ {L : Nat -> Lk} {R : Nat -> List Nat}, FrS n up i bef L R rest -> WF n (zb9 L up bef rest) (zic L R up bef rest) := by
 induction rest with
 | nil => exact fun h => h.wf
 | cons k r ih => exact fun h => ih h.next
structure Zcv (S : Dm) (R : Nat -> List Nat) (up i : Nat) (bef : Int) : Prop where
 wf : WF S.n S.pl R
 hu : up < S.n
 hi : i < S.n
 ne : up ≠ i
 no : ∀ k ∈ R i, k ≠ i /\ k ≠ up
 bef : bef = -1 \/ ∃ m : Nat, m < S.n /\ bef = (m : Int) /\ (S.pl m).up = (up : Int)
theorem Zcv.fr {S : Dm} {R : Nat -> List Nat} {up i : Nat} {bef : Int} (h : Zcv S R up i bef) : FrS S.n up i bef S.pl R (R i) := ⟨h.wf, rfl, h.hu, h.hi, h.ne, h.no, h.bef⟩
theorem Zcv.one {S : Dm} {R : Nat -> List Nat} {up i : Nat} {bef : Int} (h : Zcv S R up i bef) : Zfq S.n S.pl up i (if bef = (i : Int) then (S.pl i).next else bef) := by
 by_cases c : bef = (i : Int)
 ·rw [if_pos c]
  rcases h.bef with hb | ⟨m, hm, e, hmu⟩
  ·omega
  ·have : m = i := by omega
   subst this
   exact h.wf.next_up hm hmu
 ·rw [if_neg c]
  rcases h.bef with hb | ⟨m, hm, e, hmu⟩
  ·exact .inl hb
  ·exact .inr ⟨m, hm, fun e' => c (by rw [e, e']), e, hmu⟩
theorem Zcv.out {S : Dm} {R : Nat -> List Nat} {up i : Nat} {bef : Int} (h : Zcv S R up i bef) : WF S.n (zd8 S R up i bef) (zdl S R up i bef) := by
 unfold zd8 zdl
 by_cases c : (S.nd i).kind = 4
 ·rw [if_pos c, if_pos c]; exact FrS.all _ h.fr
 ·rw [if_neg c, if_neg c]; exact h.wf.putR h.hu h.hi h.one
theorem Zcv.of {S : Dm} {R : Nat -> List Nat} {rk : Nat -> Nat} {up i : Nat} {bef : Int} (hW : WF S.n S.pl R) (ha : Acy S rk) (hu : up < S.n) (hi : i < S.n) (hw : ¬ Wi S i up) (hb : bef = -1 \/ ∃ m : Nat, m < S.n /\ bef = (m : Int) /\ (S.pl m).up = (up : Int)) : Zcv S R up i bef := by
 refine ⟨hW, hu, hi, fun e => hw (e ▸ .here), fun k hk => ?_, hb⟩
 have hup := hW.up hi hk
 have hp : zbl S k = (i : Int) := by
  unfold zbl
  rw [if_neg (by omega)]
  exact hup
 constructor
 ·intro e
  subst e
  rcases ha k hi with h0 | ⟨m, _, h1, h2⟩
  ·omega
  ·have : m = k := by omega
   subst this
   omega
 ·intro e
  subst e
  exact hw (.up hp .here)
end
section
open Go.RowKit
theorem DY.weaken {K K' : Nat -> Prop} {w : World} {p : Nat} {S : Dm} {ga : Option Addr} {cap : Nat} (h : DY K w p S ga cap) (hs : ∀ k, K' k -> K k) : DY K' w p S ga cap := h.more (Kept.refl _ w) (fun k hk => .inl (hs k hk)) (fun k hk => h.1 k (hs k hk))
theorem zry (K : Nat -> Prop) (p g cap up i : Nat) (bef : Int) (S : Dm) (R : Nat -> List Nat) (w : World) (h : DY K w p S (some ⟨g, 0, none⟩) cap) (hP : Zcv S R up i bef) (hk4 : (S.nd i).kind ≠ 4) (hn : S.n <= 1000000) :
  Calls Tryz.prog 151 #[.pointer (some ⟨p, 0, none⟩), .int .i64 (up : Int), .int .i64 (i : Int), .int .i64 bef] w fun e w' => e = .returned (.tuple #[]) /\ DY K w' p (S.setP (zd8 S R up i bef)) (some ⟨g, 0, none⟩) cap /\ Kept K w w' := by
 have eD : zd8 S R up i bef = zdn S.pl up i (if bef = (i : Int) then (S.pl i).next else bef) := if_neg hk4
 rw [eD]
 have hi := hP.hi
 have c1 := h.c1
 obtain ⟨aa, ac, hc, -⟩ := h.cell hi
 have c0 : w.cell? ⟨g, i * 22, none⟩ = some (.int .u8 ((S.nd i).kind : Int)) := hc 0 _ rfl
 have c14 : w.cell? ⟨g, i * 22 + 14, none⟩ = some (.int .i64 (S.pl i).next) := hc 14 _ rfl
 have rp := zsj K p g cap up i _ S R w h hP.wf hP.hu hP.hi hP.ne hP.one (by omega)
 obtain ⟨n, hne⟩ : ∃ n, S.n = n := ⟨_, rfl⟩
 obtain ⟨kd, hkd⟩ : ∃ k, (S.nd i).kind = k := ⟨_, rfl⟩
 obtain ⟨nx, hnx⟩ : ∃ k, (S.pl i).next = k := ⟨_, rfl⟩
 rw [hne] at c1 hi hn
 rw [hkd] at c0 hk4
 rw [hnx] at c14 rp ⊢
 have e4 : ((kd : Int) == 4) = false := by
  have : (kd : Int) ≠ 4 := by omega
  simpa using this
 clear h hP eD hc hne hkd hnx hk4
 by_cases cb : bef = (i : Int)
 ·subst cb
  rw [if_pos rfl] at rp ⊢
  go_enter Tryz.func151, Tryz.ntmps151
  go_wp2_with (first | (go_at_call 112; refine (zei _ _).mono ?_; rintro e w2 ⟨rfl, hw2⟩; replace hw2 := hw2.symm; subst hw2) | (go_at_call 181; refine rp.mono ?_; rintro e w2 ⟨rfl, hY, hK⟩))
  go_end0
  exact ⟨rfl, hY, hK⟩
 ·rw [if_neg cb] at rp ⊢
  have eb : (bef == (i : Int)) = false := by simpa using cb
  clear cb
  go_enter Tryz.func151, Tryz.ntmps151
  go_wp2_with (first | (go_at_call 112; refine (zei _ _).mono ?_; rintro e w2 ⟨rfl, hw2⟩; replace hw2 := hw2.symm; subst hw2) | (go_at_call 181; refine rp.mono ?_; rintro e w2 ⟨rfl, hY, hK⟩))
  go_end0
  exact ⟨rfl, hY, hK⟩
theorem zhl (L : Nat -> Lk) (up : Nat) (bef : Int) (a b : List Nat) : zb9 L up bef (a ++ b) = zb9 (zb9 L up bef a) up bef b := by
 induction a generalizing L with
 | nil => rfl
 | cons x r ih => exact ih _
theorem zrw (K : Nat -> Prop) (p g cap up i : Nat) (bef : Int) (S : Dm) (R : Nat -> List Nat) (w : World) (h : DY K w p S (some ⟨g, 0, none⟩) cap) (hP : Zcv S R up i bef) (hk4 : (S.nd i).kind = 4) (hn : S.n <= 1000000) :
  Calls Tryz.prog 151 #[.pointer (some ⟨p, 0, none⟩), .int .i64 (up : Int), .int .i64 (i : Int), .int .i64 bef] w fun e w' => e = .returned (.tuple #[]) /\ DY K w' p (S.setP (zd8 S R up i bef)) (some ⟨g, 0, none⟩) cap /\ Kept K w w' := by
 have eD : zd8 S R up i bef = zb9 S.pl up bef (R i) := if_pos hk4
 rw [eD]
 have hi := hP.hi
 have hu := hP.hu
 have c1 := h.c1
 obtain ⟨aa, ac, hc, -⟩ := h.cell hi
 have c0 : w.cell? ⟨g, i * 22, none⟩ = some (.int .u8 ((S.nd i).kind : Int)) := hc 0 _ rfl
 rw [hk4] at c0
 have rr := zso K p g cap i S R w h hP.wf hP.hi (by omega)
 have hlen := hP.wf.len_le hi
 have hF := hP.fr
 have HY0 : Hid (DY K w p S (some ⟨g, 0, none⟩) cap) := h
 obtain ⟨n, hne⟩ : ∃ n, S.n = n := ⟨_, rfl⟩
 have HNE : Hid (S.n = n) := hne
 obtain ⟨Q, hQ⟩ : ∃ Q, R i = Q := ⟨_, rfl⟩
 rw [hQ] at rr hF hlen ⊢
 rw [hne] at c1 hi hn hlen hF hu
 have HF : Hid (FrS n up i bef S.pl R Q) := hF
 clear h hP eD hc hne hQ hk4 hF
 go_enter Tryz.func151, Tryz.ntmps151
 go_wp2_with (first | (go_at_call 112; refine (zei _ _).mono ?_; rintro e w2 ⟨rfl, hw2⟩; replace hw2 := hw2.symm; subst hw2))
 refine rr.mono ?_
 rintro e w1 ⟨ao, c, rfl, hO, hK1⟩
 clear rr c1 c0
 obtain ⟨K2, hK2⟩ : ∃ K2 : Nat -> Prop, (fun k => K k \/ zap ao k) = K2 := ⟨_, rfl⟩
 have hY1 : DY K2 w1 p S (some ⟨g, 0, none⟩) cap := by
  rw [<- hK2]
  refine HY0.out.more hK1 (fun k hk => ?_) (fun k hk => ?_)
  ·rcases hk with hk | hk
   ·exact .inl hk
   ·exact .inr (Nat.le_of_not_lt (Zac.out hO hk).1)
  ·rcases hk with hk | hk
   ·exact ltl (HY0.out.1 k hk) hK1.size
   ·exact (Zac.out hO hk).2
 have HO : Hid (Zac (fun k => k < w.heap.size) w1 3 1 ao Q.length c (ivs Q)) := hO
 have HK1 : Hid (Kept (fun k => k < w.heap.size) w w1) := hK1
 have HY1 : Hid (DY K2 w1 p S (some ⟨g, 0, none⟩) cap) := hY1
 have HK2 : Hid ((fun k => K k \/ zap ao k) = K2) := hK2
 obtain ⟨N, hN⟩ : ∃ N, Q.length = N := ⟨_, rfl⟩
 rw [hN] at hlen ⊢
 have HN : Hid (Q.length = N) := hN
 clear hO hK1 hY1 hK2 hN
 go_upto_region 3 with fail
 go_loopg [26] N (fun gh v wr => ∃ (j : Nat) (Rc : Nat -> List Nat), gh = N - j /\ j <= N /\ v = .int .i64 (j : Int) /\ FrS n up i bef (zb9 S.pl up bef (Q.take j)) Rc (Q.drop j) /\ DY K2 wr p (S.setP (zb9 S.pl up bef (Q.take j))) (some ⟨g, 0, none⟩) cap /\ Kept K2 w1 wr)
 case atStart => exact ⟨0, R, rfl, Nat.zero_le _, rfl, HF.out, HY1.out, Kept.refl _ _⟩
 case round =>
  obtain ⟨j, Rc, hgj, hj, rfl, hfr, hY, hK⟩ := hrel
  by_cases hlt : j < N
  ·have hl : j < Q.length := by rw [HN.out]; exact hlt
   rw [List.drop_eq_getElem_cons hl] at hfr
   obtain ⟨q1, q2, q3⟩ := hfr.ok
   have hnx := hfr.next
   have rp := zsj K2 p g cap up Q[j] bef (S.setP (zb9 S.pl up bef (Q.take j))) Rc wr hY (by show WF S.n _ Rc; rw [HNE.out]; exact hfr.wf) (by show up < S.n; rw [HNE.out]; exact hu) (by show Q[j] < S.n; rw [HNE.out]; exact q1) q2 (by show Zfq S.n _ up _ bef; rw [HNE.out]; exact q3) (by show S.n <= _; rw [HNE.out]; omega)
   obtain ⟨ga, hga, hcell⟩ := HO.out.cell (j := j) (u := iv Q[j]) (by simp [ivs, hl])
   have hcw : wr.cell? ⟨ga, j, none⟩ = some (.int .i64 (Q[j] : Int)) := by
    rw [hK.cell (p := ⟨ga, j, none⟩) (by rw [<- HK2.out]; exact .inr hga)]
    exact hcell
   have e1 : zdn (zb9 S.pl up bef (Q.take j)) up Q[j] bef = zb9 S.pl up bef (Q.take (j + 1)) := by
    rw [List.take_succ_eq_append_getElem hl, zhl]; rfl
   have rp' : Calls Tryz.prog 181 #[chP p, .int .i64 (up : Int), .int .i64 (Q[j] : Int), .int .i64 bef] wr fun e w' => e = .returned (.tuple #[]) /\ DY K2 w' p (S.setP (zb9 S.pl up bef (Q.take (j + 1)))) (some ⟨g, 0, none⟩) cap /\ Kept K2 wr w' := by
    rw [<- e1]; exact rp
   rw [e1] at hnx
   subst hga
   obtain ⟨q, hq⟩ : ∃ q, Q[j] = q := ⟨_, rfl⟩
   rw [hq] at rp' hcw
   have HNX : Hid (∃ Rd, FrS n up i bef (zb9 S.pl up bef (Q.take (j + 1))) Rd (Q.drop (j + 1))) := ⟨_, hnx⟩
   have HK : Hid (Kept K2 w1 wr) := hK
   clear hfr hnx q1 q2 q3 rp hcell e1 hY hK hq
   go_wp2_with fail
   refine rp'.mono ?_
   rintro e w2 ⟨rfl, hY2, hK2'⟩
   have HY2 : Hid (DY K2 w2 p (S.setP (zb9 S.pl up bef (Q.take (j + 1)))) (some ⟨g, 0, none⟩) cap) := hY2
   have HKK : Hid (Kept K2 w1 w2) := HK.out.trans hK2'
   clear rp' hY2 hK2' hcw
   go_wp2
   go_roundg (N - (j + 1))
   case rel =>
    obtain ⟨Rd, hRd⟩ := HNX.out
    exact ⟨j + 1, Rd, rfl, by omega, by go_num, hRd, HY2.out, HKK.out⟩
   case measure => omega
  ·have hjN : j = N := by omega
   subst hjN
   have hall : Q.take j = Q := List.take_of_length_le (by rw [HN.out]; exact Nat.le_refl _)
   rw [hall] at hY
   have HYF : Hid (DY K wr p (S.setP (zb9 S.pl up bef Q)) (some ⟨g, 0, none⟩) cap) := hY.weaken fun k hk => by rw [<- HK2.out]; exact .inl hk
   have HKF : Hid (Kept K w wr) := (HK1.out.mono HY0.out.1).trans (hK.mono fun k hk => by rw [<- HK2.out]; exact .inl hk)
   clear hfr hY hK hall
   go_wp2
   first
    | go_end0
    | refine bodyPost_ret (results_none rfl _ _ _) rfl ?_
   exact ⟨rfl, HYF.out, HKF.out⟩
theorem zn9 (K : Nat -> Prop) (p g cap up i : Nat) (bef : Int) (S : Dm) (R : Nat -> List Nat) (w : World) (h : DY K w p S (some ⟨g, 0, none⟩) cap) (hP : Zcv S R up i bef) (hn : S.n <= 1000000) :
  Calls Tryz.prog 151 #[.pointer (some ⟨p, 0, none⟩), .int .i64 (up : Int), .int .i64 (i : Int), .int .i64 bef] w fun e w' => e = .returned (.tuple #[]) /\ DY K w' p (S.setP (zd8 S R up i bef)) (some ⟨g, 0, none⟩) cap /\ Kept K w w' := by
 by_cases c : (S.nd i).kind = 4
 ·exact zrw K p g cap up i bef S R w h hP c hn
 ·exact zry K p g cap up i bef S R w h hP c hn
theorem zd6 (K : Nat -> Prop) (p up i : Nat) (bef : Int) (S : Dm) (R : Nat -> List Nat) (rk : Nat -> Nat) (w : World) (h : DX K w p S) (hW : WF S.n S.pl R) (ha : Acy S rk) (hu : up < S.n) (hi : i < S.n) (hb : bef = -1 \/ ∃ m : Nat, m < S.n /\ bef = (m : Int)) (hn : S.n <= 1000000) :
  Calls Tryz.prog 70 #[.pointer (some ⟨p, 0, none⟩), .int .i64 (up : Int), .int .i64 (i : Int), .int .i64 bef] w fun e w' => Kept K w w' /\ ((e = .returned (.int .u16 81) /\ ¬ Fits S up i bef /\ DX K w' p S) \/ (e = .returned (.int .u16 0) /\ Fits S up i bef /\ DX K w' p (S.setP (zd8 S R up i bef)))) := by
 obtain ⟨ga, cap, hY⟩ := h
 obtain ⟨g, rfl, -, -, -⟩ := hY.at (by omega)
 have c1 := hY.c1
 have rf := zph K p g cap up i bef S rk w hY ha hu hi hb (by omega)
 have rp := fun (hF : Fits S up i bef) X (hX : Kept (fun k => k < w.heap.size) w X) => zn9 K p g cap up i bef S R X (hY.kept hX) (Zcv.of hW ha hu hi hF.2.2.1 hF.2.2.2) hn
 have HY : Hid (DY K w p S (some ⟨g, 0, none⟩) cap) := hY
 have HP : Hid (Fits S up i bef -> ∀ X, Kept (fun k => k < w.heap.size) w X -> Calls Tryz.prog 151 #[.pointer (some ⟨p, 0, none⟩), .int .i64 (up : Int), .int .i64 (i : Int), .int .i64 bef] X fun e w' => e = .returned (.tuple #[]) /\ DY K w' p (S.setP (zd8 S R up i bef)) (some ⟨g, 0, none⟩) cap /\ Kept K X w') := rp
 obtain ⟨n, hne⟩ : ∃ n, S.n = n := ⟨_, rfl⟩
 rw [hne] at c1 hu hi hn hb
 have r1 := zcs p g n cap up w c1 hu (by omega)
 have r2 := zcs p g n cap i w c1 hi (by omega)
 clear hY hW ha rp hne
 rcases hb with rfl | ⟨m, hm, rfl⟩
 ·go_enter Tryz.func70, Tryz.ntmps70
  go_upto_region 3 with (first | (go_at_call 110; with_reducible refine r1.mono ?_; rintro e w2 ⟨rfl, hw2⟩; replace hw2 := hw2.symm; subst hw2) | (go_at_call 110; with_reducible refine r2.mono ?_; rintro e w2 ⟨rfl, hw2⟩; replace hw2 := hw2.symm; subst hw2))
  go_wp2_with fail
  refine rf.mono ?_
  rintro e w1 ⟨b, rfl, hb, k1⟩
  have HB : Hid (b = true ↔ Fits S up i (-1)) := hb
  have HK1 : Hid (Kept (fun k => k < w.heap.size) w w1) := k1
  clear rf r1 r2 hb k1 c1
  cases b with
  | false =>
   go_wp2
   go_ret
   exact ⟨HK1.out.mono HY.out.1, .inl ⟨rfl, fun hf => (by have := HB.out.2 hf; simp at this), ⟨_, _, HY.out.kept HK1.out⟩⟩⟩
  | true =>
   have hf := HB.out.1 (by simp)
   have r3 := HP.out hf w1 HK1.out
   have HF : Hid (Fits S up i (-1)) := hf
   clear hf HB HP
   go_wp2_with fail
   refine r3.mono ?_
   rintro e w2 ⟨rfl, hY2, hK2⟩
   have HY2 : Hid (DY K w2 p (S.setP (zd8 S R up i (-1))) (some ⟨g, 0, none⟩) cap) := hY2
   have HK2 : Hid (Kept K w w2) := (HK1.out.mono HY.out.1).trans hK2
   clear r3 hY2 hK2
   go_wp2
   go_ret
   exact ⟨HK2.out, .inr ⟨rfl, HF.out, ⟨_, _, HY2.out⟩⟩⟩
 ·have r4 := zcs p g n cap m w c1 hm (by omega)
  have em : ((m : Int) != -1) = true := by simp
  have em' : ((m : Int) == -1) = false := by simp
  go_enter Tryz.func70, Tryz.ntmps70
  go_upto_region 3 with (first | (go_at_call 110; with_reducible refine r1.mono ?_; rintro e w2 ⟨rfl, hw2⟩; replace hw2 := hw2.symm; subst hw2) | (go_at_call 110; with_reducible refine r2.mono ?_; rintro e w2 ⟨rfl, hw2⟩; replace hw2 := hw2.symm; subst hw2) | (go_at_call 110; with_reducible refine r4.mono ?_; rintro e w2 ⟨rfl, hw2⟩; replace hw2 := hw2.symm; subst hw2))
  go_wp2_with fail
  refine rf.mono ?_
  rintro e w1 ⟨b, rfl, hb, k1⟩
  have HB : Hid (b = true ↔ Fits S up i (m : Int)) := hb
  have HK1 : Hid (Kept (fun k => k < w.heap.size) w w1) := k1
  clear rf r1 r2 r4 hb k1 c1
  cases b with
  | false =>
   go_wp2
   go_ret
   exact ⟨HK1.out.mono HY.out.1, .inl ⟨rfl, fun hf => (by have := HB.out.2 hf; simp at this), ⟨_, _, HY.out.kept HK1.out⟩⟩⟩
  | true =>
   have hf := HB.out.1 (by simp)
   have r3 := HP.out hf w1 HK1.out
   have HF : Hid (Fits S up i (m : Int)) := hf
   clear hf HB HP
   go_wp2_with fail
   refine r3.mono ?_
   rintro e w2 ⟨rfl, hY2, hK2⟩
   have HY2 : Hid (DY K w2 p (S.setP (zd8 S R up i (m : Int))) (some ⟨g, 0, none⟩) cap) := hY2
   have HK2 : Hid (Kept K w w2) := (HK1.out.mono HY.out.1).trans hK2
   clear r3 hY2 hK2
   go_wp2
   go_ret
   exact ⟨HK2.out, .inr ⟨rfl, HF.out, ⟨_, _, HY2.out⟩⟩⟩
end
end Go.Proofs.YtfeinppedejlpaaGreat
