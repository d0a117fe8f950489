/- The document's asking as bytes: plain facts; Round. -/
import Derived.Test.YtdjhhnolcafkiaaRefTold
import Derived.Test.YtdjhhnolcafkiaaAskPure
import Derived.Test.YtdjhhnolcafkiaaAppAt
namespace Go.Proofs.Ytdjhhnolcafkiaa
open Go.RowKit
namespace Pk

/-- a bit for each step -/
def orF (S : List Nat) (a : Nat) : Nat := S.foldl (fun a d => a ||| 2 ^ (d - 1)) a
theorem orF_snoc (S : List Nat) (d a : Nat) : orF (S ++ [d]) a = orF S a ||| 2 ^ (d - 1) := by simp [orF]
theorem orF_bit (S : List Nat) (k : Nat) (hS : ∀ d ∈ S, 1 ≤ d) : ∀ a, (orF S a).testBit k = (a.testBit k || S.contains (k + 1)) := by
  induction S with
  | nil => intro a; simp [orF]
  | cons d S ih =>
    intro a
    have hd := hS d (by simp)
    show (orF S (a ||| 2 ^ (d - 1))).testBit k = _
    rw [ih (fun x hx => hS x (by simp [hx])), Nat.testBit_or, Nat.testBit_two_pow]
    rw [List.contains_cons]
    by_cases e : d - 1 = k
    · have e2 : k + 1 = d := by omega
      simp [e, e2]
    · have e2 : (k + 1 == d) = false := by rw [beq_eq_false_iff_ne]; omega
      rw [e2]
      simp [e]
theorem orF_lt (S : List Nat) (hS : ∀ d ∈ S, 1 ≤ d ∧ d ≤ 16) : ∀ a, a < 65536 → orF S a < 65536 := by
  induction S with
  | nil => intro a h; exact h
  | cons d S ih =>
    intro a h
    have hd := hS d (by simp)
    exact ih (fun x hx => hS x (by simp [hx])) _ (or_lt a d h hd.2 hd.1)
theorem mod_next (x k : Nat) : x % 2 ^ (k + 1) = x % 2 ^ k + (if x.testBit k then 2 ^ k else 0) := by
  rw [Nat.mod_pow_succ, Nat.testBit_eq_decide_div_mod_eq]
  have h := Nat.mod_lt (x / 2 ^ k) (show 2 > 0 by omega)
  rcases (show x / 2 ^ k % 2 = 0 ∨ x / 2 ^ k % 2 = 1 by omega) with e | e <;> simp [e]

/-- the next number begins an entry -/
def Brk (E : List (Nat × Nat)) (n : Nat) : Prop := pushE E n = E ++ [(n, 0)]

theorem round_steps (x p : Nat) (hx : x < 65536) (hp : p < 65536) : ((x : Int) - (p : Int)) % 65536 = (stepsTo x p : Int) := by
  unfold stepsTo
  omega

theorem tmod_round (n : Int) : n % 65536 = (if n.tmod 65536 < 0 then n.tmod 65536 + 65536 else n.tmod 65536) ∧ -65536 < n.tmod 65536 ∧ n.tmod 65536 < 65536 := by
  rcases Int.le_total 0 n with h | h
  · rw [Int.tmod_eq_emod_of_nonneg h]
    split <;> omega
  · obtain ⟨m, hm⟩ : ∃ m, m = -n := ⟨_, rfl⟩
    have e : n = -m := by omega
    rw [e, Int.neg_tmod, Int.tmod_eq_emod_of_nonneg (by omega)]
    split <;> omega

end Pk
open Pk

set_option maxHeartbeats 400000 in
theorem refRound_any (n : Int) (w : World) :
    Calls Try.prog 66 #[.int .i64 n] w fun e w' => e = .returned (.int .i64 (n % 65536)) ∧ w' = w := by
  obtain ⟨He, hb1, hb2⟩ := tmod_round n
  by_cases hn : n.tmod 65536 < 0
  · rw [if_pos hn] at He
    have He' : Hid (n % 65536 = n.tmod 65536 + 65536) := He
    clear He
    go_enter Try.func66, Try.ntmps66
    go_wp2
    go_ret
    exact ⟨ret_int He'.out.symm, rfl⟩
  · rw [if_neg hn] at He
    have He' : Hid (n % 65536 = n.tmod 65536) := He
    clear He
    go_enter Try.func66, Try.ntmps66
    go_wp2
    go_ret
    exact ⟨ret_int He'.out.symm, rfl⟩

end Go.Proofs.Ytdjhhnolcafkiaa
