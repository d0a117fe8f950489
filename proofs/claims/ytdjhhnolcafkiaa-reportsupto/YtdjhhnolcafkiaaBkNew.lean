/- A new book. -/
import Derived.Test.YtdjhhnolcafkiaaBookQ
import Derived.Test.YtdjhhnolcafkiaaFindBits
namespace Go.Proofs.Ytdjhhnolcafkiaa
open Go.RowKit
namespace Pk

theorem Pr.nil (W : World) (g : Nat) (ρ : Nat → Nat) (ra rm : Nat) (te tm : TypeId) (cells : Value → List Value) : Pr W g ρ ra rm te tm cells (.slice none 0 0) (.slice none 0 0) [] [] :=
  ⟨World.ownsRow_nil _ _ _ _, World.ownsRow_nil _ _ _ _, fun b hb => (by cases hb), fun b hb => (by cases hb), rfl, fun i u m hu => (by simp at hu)⟩

/-- only the book itself has a role -/
def newRole (g b : Nat) : Nat := if b = g then 1 else 0

theorem bkN_new (w : World) (t : TypeId) : BkN (w.alloc (.cells #[.slice none 0 0, .slice none 0 0, .slice none 0 0, .slice none 0 0, .slice none 0 0, .slice none 0 0, .int .i64 0] t)) w.heap.size (newRole w.heap.size) (.slice none 0 0) (.slice none 0 0) (.slice none 0 0) (.slice none 0 0) (.slice none 0 0) (.slice none 0 0) [] [] [] [] [] [] 0 := by
  refine ⟨cell_new _ _ _ 0, cell_new _ _ _ 1, cell_new _ _ _ 2, cell_new _ _ _ 3, cell_new _ _ _ 4, cell_new _ _ _ 5, cell_new _ _ _ 6, fun o => frozen_new _ _ _ o, fun b => ?_, fun b hb => ?_, Pr.nil .., Pr.nil .., Pr.nil ..⟩
  · unfold newRole
    split <;> simp_all
  · unfold newRole
    rw [if_neg (by simp at hb; omega)]

end Pk
end Go.Proofs.Ytdjhhnolcafkiaa
