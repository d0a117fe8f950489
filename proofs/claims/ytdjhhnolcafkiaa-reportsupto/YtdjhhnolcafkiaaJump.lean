/- A scope out of which the run jumps forward to one label. -/
import Derived.ScopeJumps
import Derived.WalkKit
namespace Go.Proofs.Ytdjhhnolcafkiaa
namespace Pk

theorem wp_scope_fwd {P : Program} {a : Act} {w : World} {Q : Exit → Act → World → Prop} {c rest : Code} (l : Nat) (hf : findLabel c l = some rest)
    (first : c.wp P (Exit.jump l (fun a w => rest.wp P (Exit.noGoto Q) a w) Q) a w) : (Code.scope c).wp P Q a w :=
  wp_scope_jumps l _ (fun _ _ => 0) hf first fun _ _ hJ => Code.wp_mono (fun e a w h => by cases e <;> first | exact h | exact (h : False).elim) hJ

theorem jump_here {P : Program} {a : Act} {w : World} {Q : Exit → Act → World → Prop} {rest : Code} (l : Nat) (h : rest.wp P (Exit.noGoto Q) a w) :
    (Exit.jump l (fun a w => rest.wp P (Exit.noGoto Q) a w) Q) (.goto l) a w := ⟨rfl, h⟩

theorem jump_ret {a : Act} {w : World} {Q : Exit → Act → World → Prop} {J : Act → World → Prop} (l : Nat) (h : Q .ret a w) : (Exit.jump l J Q) .ret a w := h

end Pk
end Go.Proofs.Ytdjhhnolcafkiaa
