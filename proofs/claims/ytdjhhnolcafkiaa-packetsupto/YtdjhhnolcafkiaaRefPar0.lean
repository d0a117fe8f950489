/- The document reads a packet: laws for its regions. -/
import Derived.Test.YtdjhhnolcafkiaaRefPar1
import Derived.Test.YtdjhhnolcafkiaaRefTold
namespace Go.Proofs.Ytdjhhnolcafkiaa
open Go.RowKit Pk

theorem region_once {P : Program} {c : Code} {Q : Exit → Act → World → Prop} {a a' : Act} {w w' : World} (h1 : Q .normal a' w' → Code.wp P c Q a w) (h2 : Q .normal a' w') : Code.wp P c Q a w := h1 h2

theorem region_once3 {P : Program} {c : Code} {Q : Exit → Act → World → Prop} {a : Act} {w : World} {R : Option Addr → Nat → World → Prop} {fa : Option Addr → Nat → World → Act} {fw : Option Addr → Nat → World → World}
    (h1 : (∀ a' c' w1, R a' c' w1 → Q .normal (fa a' c' w1) (fw a' c' w1)) → Code.wp P c Q a w) (h2 : ∀ a' c' w1, R a' c' w1 → Q .normal (fa a' c' w1) (fw a' c' w1)) : Code.wp P c Q a w := h1 h2

theorem cell_alloc {W : World} {a : Addr} {u : Value} (h : W.cell? a = some u) (o : Obj) : (W.alloc o).cell? a = some u := (World.cell?_alloc_lt _ _ _ (lt_of_cell h)).trans h

theorem refNoughts_at (a : Int) (n : Nat) (w : World) (ha : a = n) (hn : n ≤ 255) :
    Calls Try.prog 63 #[.int .i64 a] w fun e w' => (∃ t : ByteArray, e = .returned (.string t) ∧ t.data.toList = List.replicate n 0) ∧ w' = w := by
  subst ha
  exact refNoughts_any n w hn

end Go.Proofs.Ytdjhhnolcafkiaa
