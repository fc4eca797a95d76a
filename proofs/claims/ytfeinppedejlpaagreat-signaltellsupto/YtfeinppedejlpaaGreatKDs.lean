/-
  SignalTells: two Boards and two documents side by side; the walk.
-/
import Derived.Test.YtfeinppedejlpaaGreatKDc
import Derived.Test.YtfeinppedejlpaaGreatKFd
import Derived.Test.YtfeinppedejlpaaGreatKFo
import Derived.Test.YtfeinppedejlpaaGreatKZf
namespace Go.Proofs.YtfeinppedejlpaaGreat
open Go.RowKit Go.Sort
set_option linter.unusedVariables false
set_option maxRecDepth 100000
set_option maxHeartbeats 8000000
def Zto (w : World) (a : Option Addr) (l : List Int) : Prop := ∀ j (h : j < l.length), ∃ g o, a = some ⟨g, o, none⟩ /\ g < w.heap.size /\ w.cell? ⟨g, o + j, none⟩ = some (.int .u8 l[j])
theorem Zto.kept {w w' : World} {a : Option Addr} {l : List Int} (h : Zto w a l) (hk : Kept (fun k => k < w.heap.size) w w') : Zto w' a l := fun j hj => by
 obtain ⟨g, o, e, hg, hc⟩ := h j hj
 exact ⟨g, o, e, ltl hg hk.size, (hk.cell (p := ⟨g, o + j, none⟩) hg).trans hc⟩
theorem zus {H : Type} {enc : TypeId × Value -> H} {W : World} {fuel : Nat} {v : Value} {d : DataW H} {pl : List MemPlace} (h : DataW.trod enc Tryz.prog W 0 (fun _ => true) true fuel 36 [v] = some (d, pl)) :
  ∃ (la : Option Addr) (lc : Nat) (l : List Int), v = .slice la l.length lc /\ Zto W la l /\ l.length <= lc /\ l.length + 1 <= Rows.uptoBulk d /\ ∀ z ∈ l, 0 <= z /\ z <= 255 := by
 obtain ⟨a, n, c, D, hv, hnc, -, hb, hel⟩ := zeq Tryz.underlying36 zu4 (by omega) h
 have each : ∀ i, ∃ z : Int, i < n -> (0 <= z /\ z <= 255) /\ ∃ g o, a = some ⟨g, o, none⟩ /\ g < W.heap.size /\ W.cell? ⟨g, o + i, none⟩ = some (.int .u8 z) := by
  intro i
  by_cases hi : i < n
  ·obtain ⟨g, o, cs, fu, pl', e, hg, hl, ht, hc⟩ := hel i hi
   match cs, hl with
   | [v0], _ =>
    obtain ⟨z, ez, _, wz⟩ := DataW.trod_int Tryz.underlying5 ht
    injection ez with ez
    refine ⟨z, fun _ => ⟨by simpa [Lit.wf, IntKind.min, IntKind.max, IntKind.bits, IntKind.signed] using wz, g, o, e, hg, ?_⟩⟩
    have := hc 0 (by omega)
    rw [ez, Nat.mul_one] at this
    exact this
  ·exact ⟨0, fun h => absurd h hi⟩
 obtain ⟨F, hF⟩ := Classical.axiomOfChoice each
 refine ⟨a, c, (List.range n).map F, by rw [hv]; simp, fun j hj => ?_, by simpa using hnc, ?_, fun z hz => ?_⟩
 ·have hj' : j < n := by simpa using hj
  obtain ⟨_, g, o, e, hg, c0⟩ := hF j hj'
  refine ⟨g, o, e, hg, ?_⟩
  rw [c0]; simp
 ·have := zcs D (fun _ => 1) n (fun r hr => zce _)
  rw [zk9] at this
  simp only [List.length_map, List.length_range]
  omega
 ·obtain ⟨j, hj, rfl⟩ := List.mem_map.1 hz
  exact (hF j (List.mem_range.1 hj)).1
structure SG (B : Nat) (E EB ED : Nat -> Prop) (X : World) (p r b c nb mc : Nat) (M : Dm) (R G : Nat -> List Nat) (rk : Nat -> Nat) (kn : Nat -> List Nat) (pd : List Nat) (dn : Nat -> List Nat) (dp : List Nat) : Prop where
 g : Grown (KB B (fun k => EB k \/ ED k)) E X p r M R G rk 300
 bo : Bo EB X b nb kn pd
 db : DBo ED X c mc dn dp
 ap : ∀ k, EB k -> ¬ ED k
 le : ∀ k, EB k \/ ED k -> B <= k
 hB : B <= X.heap.size
 mc9 : mc <= 90000
section
variable {B : Nat} {E EB ED E1 : Nat -> Prop} {X X1 : World} {p r b c nb mc n1 m1 : Nat} {M : Dm} {R G : Nat -> List Nat} {rk : Nat -> Nat} {kn dn kn1 dn1 : Nat -> List Nat} {pd dp pd1 dp1 : List Nat}
theorem SG.kept (h : SG B E EB ED X p r b c nb mc M R G rk kn pd dn dp) (hk : Kept (fun k => k < X.heap.size) X X1) : SG B E EB ED X1 p r b c nb mc M R G rk kn pd dn dp :=
 ⟨h.g.kept hk, h.bo.keptA hk, h.db.keptA hk, h.ap, h.le, Nat.le_trans h.hB hk.size, h.mc9⟩
theorem SG.see1 (h : SG B E EB ED X p r b c nb mc M R G rk kn pd dn dp) (g : Gr EB E1 X X1) (hb : Bo E1 X1 b n1 kn1 pd1) : SG B E E1 ED X1 p r b c n1 mc M R G rk kn1 pd1 dn dp := by
 have hd := h.db.kept (g.kept.mono fun k hk => ⟨h.db.lt k hk, fun he => h.ap k he hk⟩)
 refine ⟨h.g.see h.hB ⟨fun k hk => hk.elim (fun h => .inl (g.sub k h)) .inr, fun k hk => ?_, g.kept.mono fun k hk => ⟨hk.1, fun he => hk.2 (.inl he)⟩⟩ (fun k hk => ?_), hb, hd, fun k hk hk2 => ?_, fun k hk => ?_, Nat.le_trans h.hB g.kept.size, h.mc9⟩
 ·rcases hk with hk | hk
  ·rcases g.new k hk with h | h
   ·exact .inl (.inl h)
   ·exact .inr h
  ·exact .inl (.inr hk)
 ·rcases hk with hk | hk
  ·exact hb.lt k hk
  ·exact hd.lt k hk
 ·rcases g.new k hk with h' | h'
  ·exact h.ap k h' hk2
  ·have := h.db.lt k hk2; omega
 ·rcases hk with hk | hk
  ·rcases g.new k hk with h' | h'
   ·exact h.le k (.inl h')
   ·exact Nat.le_trans h.hB h'
  ·exact h.le k (.inr hk)
theorem SG.see2 (h : SG B E EB ED X p r b c nb mc M R G rk kn pd dn dp) (g : Gr ED E1 X X1) (hb : DBo E1 X1 c m1 dn1 dp1) (h9 : m1 <= 90000) : SG B E EB E1 X1 p r b c nb m1 M R G rk kn pd dn1 dp1 := by
 have hd := h.bo.kept (g.kept.mono fun k hk => ⟨h.bo.lt k hk, h.ap k hk⟩)
 refine ⟨h.g.see h.hB ⟨fun k hk => hk.elim .inl (fun h => .inr (g.sub k h)), fun k hk => ?_, g.kept.mono fun k hk => ⟨hk.1, fun he => hk.2 (.inr he)⟩⟩ (fun k hk => ?_), hd, hb, fun k hk hk2 => ?_, fun k hk => ?_, Nat.le_trans h.hB g.kept.size, h9⟩
 ·rcases hk with hk | hk
  ·exact .inl (.inl hk)
  ·rcases g.new k hk with h | h
   ·exact .inl (.inr h)
   ·exact .inr h
 ·rcases hk with hk | hk
  ·exact hd.lt k hk
  ·exact hb.lt k hk
 ·rcases g.new k hk2 with h' | h'
  ·exact h.ap k hk h'
  ·have := h.bo.lt k hk; omega
 ·rcases hk with hk | hk
  ·exact h.le k (.inl hk)
  ·rcases g.new k hk with h' | h'
   ·exact h.le k (.inr h')
   ·exact Nat.le_trans h.hB h'
theorem SG.reads (h : SG B E EB ED X p r b c nb mc M R G rk kn pd dn dp) (hn : M.n <= 300) : ∀ Y E', Gr ED E' X Y -> (∀ k, E' k -> k < Y.heap.size) -> (∃ g nc, Y.cell? ⟨r, 1, none⟩ = some (.slice g M.n nc)) /\ ∀ i, i < M.n -> Calls Tryz.prog 20 #[.pointer (some ⟨r, 0, none⟩), .int .i64 (i : Int)] Y (Lst Y (za8 M R G i)) := fun Y E' g hl => by
 have hg : Grown (KB B (fun k => EB k \/ E' k)) E Y p r M R G rk 300 := by
  refine h.g.see h.hB ⟨fun k hk => hk.elim .inl (fun h => .inr (g.sub k h)), fun k hk => ?_, g.kept.mono fun k hk => ⟨hk.1, fun he => hk.2 (.inr he)⟩⟩ (fun k hk => ?_)
  ·rcases hk with hk | hk
   ·exact .inl (.inl hk)
   ·rcases g.new k hk with h | h
    ·exact .inl (.inr h)
    ·exact .inr h
  ·rcases hk with hk | hk
   ·exact ltl (h.bo.lt k hk) g.kept.size
   ·exact hl k hk
 have hr : Rr _ Y r M R G rk := ⟨hg.two.r, hg.inv, by omega⟩
 refine ⟨?_, fun i hi => hr.asg_in hi⟩
 obtain ⟨A, hY⟩ := hg.two.r
 exact ⟨_, _, hY.c1⟩
theorem zsr (h : Inv M R G rk) {i : Nat} (hi : i < M.n) : (za8 M R G i).length <= M.n := za4 (n := M.n) _ (h.asg_nd hi) fun x hx => h.asg_lt hi hx
end
end Go.Proofs.YtfeinppedejlpaaGreat
