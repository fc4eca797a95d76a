/-
  What is begun and ended in order stands side by side; headings: pure.
-/
import Derived.Test.YtffllhohlfblnabEB
namespace Go.Proofs.Ytffllhohlfblnab

def enN : Nat → List UInt8
  | 0 => [100, 105, 118]
  | 1 => [115, 112, 97, 110]
  | 2 => [115, 101, 99, 116, 105, 111, 110]
  | 3 => [98]
  | 4 => [120, 45, 97]
  | 5 => [108, 105]
  | 6 => [112]
  | 7 => [97]
  | _ => [104, 49]
def enT (n : Nat) (d : List UInt8) : List Tk := [⟨1, enN n, [], false, [], 0⟩, ⟨3, [], [], false, d, 0⟩, ⟨2, enN n, [], false, [], 0⟩]
def enI (n : Nat) (d : List UInt8) : List It := [⟨0, 1, enN n, [], []⟩, ⟨1, 2, [], [], d⟩]
theorem full_small (b : BS) (h1 : b.items.length ≤ 4000) (h2 : lastA b.items ≤ 50) : b.full = false := by
  unfold BS.full
  rw [decide_eq_false (show ¬ b.items.length > 5000 by omega), decide_eq_false (show ¬ lastA b.items > 50 by omega)]
  rfl
theorem lastA_one (l : List It) (x : It) : lastA (l ++ [x]) = x.attrs.length := by
  unfold lastA
  rw [List.getLast?_append]
  rfl
theorem en_step (n : Nat) (hn : n < 9) (c : UInt8) (r : List UInt8) (l : List It) :
    (⟨l, [], []⟩ : BS).take ⟨1, enN n, [], false, [], 0⟩ = ⟨l ++ [⟨0, 1, enN n, [], []⟩], [], [enN n]⟩ ∧
    (⟨l ++ [⟨0, 1, enN n, [], []⟩], [], [enN n]⟩ : BS).take ⟨3, [], [], false, c :: r, 0⟩ = ⟨l ++ [⟨0, 1, enN n, [], []⟩] ++ [⟨1, 2, [], [], c :: r⟩], [], [enN n]⟩ ∧
    (⟨l ++ [⟨0, 1, enN n, [], []⟩] ++ [⟨1, 2, [], [], c :: r⟩], [], [enN n]⟩ : BS).take ⟨2, enN n, [], false, [], 0⟩ = ⟨l ++ [⟨0, 1, enN n, [], []⟩] ++ [⟨1, 2, [], [], c :: r⟩], [], []⟩ := by
  match n, hn with
  | 0, _ => exact ⟨rfl, rfl, rfl⟩
  | 1, _ => exact ⟨rfl, rfl, rfl⟩
  | 2, _ => exact ⟨rfl, rfl, rfl⟩
  | 3, _ => exact ⟨rfl, rfl, rfl⟩
  | 4, _ => exact ⟨rfl, rfl, rfl⟩
  | 5, _ => exact ⟨rfl, rfl, rfl⟩
  | 6, _ => exact ⟨rfl, rfl, rfl⟩
  | 7, _ => exact ⟨rfl, rfl, rfl⟩
  | 8, _ => exact ⟨rfl, rfl, rfl⟩
  | n + 9, h => exact absurd h (by omega)
theorem en_build (c : UInt8) (r : List UInt8) : ∀ (ns : List Nat) (l : List It), (∀ n ∈ ns, n < 9) → l.length + 2 * ns.length ≤ 3000 → lastA l ≤ 50 → buildF ⟨l, [], []⟩ (ns.flatMap fun n => enT n (c :: r)) = some ⟨l ++ ns.flatMap fun n => enI n (c :: r), [], []⟩
  | [], l, _, _, _ => by simp [buildF]
  | n :: ns, l, hn, hl, ha => by
    obtain ⟨e1, e2, e3⟩ := en_step n (hn n (by simp)) c r l
    simp only [List.length_cons] at hl
    have ih := en_build c r ns (l ++ [⟨0, 1, enN n, [], []⟩] ++ [⟨1, 2, [], [], c :: r⟩]) (fun x hx => hn x (by simp [hx])) (by simp only [List.length_append, List.length_cons, List.length_nil]; omega) (by rw [lastA_one]; exact Nat.zero_le _)
    have f1 : (⟨l ++ [⟨0, 1, enN n, [], []⟩], [], [enN n]⟩ : BS).full = false := full_small _ (by show (l ++ [_]).length ≤ _; simp; omega) (by show lastA (l ++ [_]) ≤ 50; rw [lastA_one]; exact Nat.zero_le _)
    have f2 : (⟨l ++ [⟨0, 1, enN n, [], []⟩] ++ [⟨1, 2, [], [], c :: r⟩], [], [enN n]⟩ : BS).full = false := full_small _ (by show (l ++ [_] ++ [_]).length ≤ _; simp; omega) (by show lastA (l ++ [_] ++ [_]) ≤ 50; rw [lastA_one]; exact Nat.zero_le _)
    have f3 : (⟨l ++ [⟨0, 1, enN n, [], []⟩] ++ [⟨1, 2, [], [], c :: r⟩], [], []⟩ : BS).full = false := full_small _ (by show (l ++ [_] ++ [_]).length ≤ _; simp; omega) (by show lastA (l ++ [_] ++ [_]) ≤ 50; rw [lastA_one]; exact Nat.zero_le _)
    show buildF ⟨l, [], []⟩ (⟨1, enN n, [], false, [], 0⟩ :: ⟨3, [], [], false, c :: r, 0⟩ :: ⟨2, enN n, [], false, [], 0⟩ :: (ns.flatMap fun n => enT n (c :: r))) = _
    unfold buildF
    rw [e1, if_neg (by rw [f1]; exact Bool.false_ne_true)]
    unfold buildF
    rw [e2, if_neg (by rw [f2]; exact Bool.false_ne_true)]
    unfold buildF
    rw [e3, if_neg (by rw [f3]; exact Bool.false_ne_true), ih]
    simp [enI]
theorem en_len (d : List UInt8) : ∀ ns : List Nat, (ns.flatMap fun n => enI n d).length = 2 * ns.length
  | [] => rfl
  | n :: ns => by
    rw [List.flatMap_cons, List.length_append, en_len d ns, List.length_cons]
    show 2 + _ = _
    omega
theorem en_get (d : List UInt8) : ∀ (ns : List Nat) (i : Nat) (h : i < (ns.flatMap fun n => enI n d).length), ((ns.flatMap fun n => enI n d)[i]).deep = i % 2 ∧ ((ns.flatMap fun n => enI n d)[i]).kind = 1 + i % 2
  | [], i, h => absurd h (Nat.not_lt_zero _)
  | n :: ns, 0, h => ⟨rfl, rfl⟩
  | n :: ns, 1, h => ⟨rfl, rfl⟩
  | n :: ns, i + 2, h => by
    have h2 : i < (ns.flatMap fun n => enI n d).length := by
      have e1 := en_len d (n :: ns)
      have e2 := en_len d ns
      simp only [List.length_cons] at e1
      omega
    have ih := en_get d ns i h2
    refine ⟨?_, ?_⟩
    · show ((ns.flatMap fun n => enI n d)[i]).deep = _
      rw [ih.1]
      omega
    · show ((ns.flatMap fun n => enI n d)[i]).kind = _
      rw [ih.2]
      omega
end Go.Proofs.Ytffllhohlfblnab
