/- wire.(*entry).take: a number near enough ahead sets its bit. -/
import Derived.Test.YtdjhhnolcafkiaaBuf
import Derived.Laws.BitsAllLaws
namespace Go.Proofs.Ytdjhhnolcafkiaa
open Go.RowKit Pk
namespace Pk
/-- how far ahead, round -/
def stepsTo (n f : Nat) : Nat := (n + 65536 - f) % 65536
theorem steps_wrap (n f : Nat) (hf : f < 65536) (hn : n < 65536) : IntKind.u16.wrap ((n : Int) - (f : Int)) = (stepsTo n f : Int) := by
  unfold stepsTo
  simp [IntKind.wrap, IntKind.signed, IntKind.bits]
  omega
theorem steps_lt (n f : Nat) : stepsTo n f < 65536 := Nat.mod_lt _ (by decide)
theorem pow_wrap : ∀ e, e < 16 → IntKind.u16.wrap ((2 : Int) ^ e) = ((2 ^ e : Nat) : Int) := by decide
theorem pow_lt : ∀ e, e < 16 → 2 ^ e < 65536 := by decide
theorem or_bit (a d : Nat) (ha : a < 65536) (h1 : 1 ≤ d) (h2 : d ≤ 16) : bits .or .u16 (a : Int) (IntKind.u16.wrap ((2 : Int) ^ (d - 1))) = ((a ||| 2 ^ (d - 1) : Nat) : Int) := by
  rw [pow_wrap (d - 1) (by omega), u16_or_nat a (2 ^ (d - 1)) ha (pow_lt (d - 1) (by omega))]
end Pk

set_option maxHeartbeats 1000000 in
theorem take_yes (b o f a n : Nat) (w : World) (c0 : w.cell? ⟨b, o, none⟩ = some (.int .u16 f)) (c1 : w.cell? ⟨b, o + 1, none⟩ = some (.int .u16 a)) (fz : ∀ j, w.frozen? ⟨b, j, none⟩ = false) (hf : f < 65536) (ha : a < 65536) (hn : n < 65536) (h1 : 1 ≤ stepsTo n f) (h2 : stepsTo n f ≤ 16) :
    Calls Try.prog 100 #[.pointer (some ⟨b, o, none⟩), .int .u16 n] w fun e w' => e = .returned (.bool true) ∧ w' = w.setCell ⟨b, o + 1, none⟩ (.int .u16 ((a ||| 2 ^ (stepsTo n f - 1) : Nat) : Int)) := by
  have hdi := steps_wrap n f hf hn
  generalize stepsTo n f = d at *
  have h1' : ¬ (d : Int) < 1 := by omega
  have h2' : ¬ (16 : Int) < d := by omega
  go_enter Try.func100, Try.ntmps100
  have hor := or_bit a d ha h1 h2
  go_wp2
  go_ret
  exact ⟨rfl, rfl⟩

set_option maxHeartbeats 1000000 in
theorem take_no (b o f n : Nat) (w : World) (c0 : w.cell? ⟨b, o, none⟩ = some (.int .u16 f)) (hf : f < 65536) (hn : n < 65536) (h : ¬ (1 ≤ stepsTo n f ∧ stepsTo n f ≤ 16)) :
    Calls Try.prog 100 #[.pointer (some ⟨b, o, none⟩), .int .u16 n] w fun e w' => e = .returned (.bool false) ∧ w' = w := by
  have hdi := steps_wrap n f hf hn
  generalize stepsTo n f = d at *
  rcases (show d < 1 ∨ 16 < d by omega) with h1 | h1
  · have h1' : (d : Int) < 1 := by omega
    go_enter Try.func100, Try.ntmps100
    go_wp2
    go_ret
    exact ⟨rfl, rfl⟩
  · have h1' : ¬ (d : Int) < 1 := by omega
    have h2 : (16 : Int) < d := by omega
    go_enter Try.func100, Try.ntmps100
    go_wp2
    go_ret
    exact ⟨rfl, rfl⟩

end Go.Proofs.Ytdjhhnolcafkiaa
