/- The document's answer: ParsePacket, whole. -/
import Derived.Test.YtdjhhnolcafkiaaRefPar2
import Derived.Test.YtdjhhnolcafkiaaRefPar3
namespace Go.Proofs.Ytdjhhnolcafkiaa
open Go.RowKit Pk

theorem refParse_any (s : ByteArray) (w : World) (hs : s.size ≤ maxLen) :
    Calls Try.prog 39 #[.string s] w fun e w' => Below w.heap.size w w' ∧ ReadAs (readP s) w.heap.size e w' := by
  by_cases h1 : s.size < 12
  · exact rp_short s w h1
  · by_cases h2 : 1500 < s.size
    · exact rp_long s w h2 hs
    · by_cases h3 : (B0 s).toNat / 64 = 2
      · by_cases h4 : s.size < at0 s
        · exact rp_at s w (by omega) (by omega) h3 h4
        · by_cases h5 : (B0 s).toNat / 16 % 2 = 1
          · exact rp_ext s w (by omega) (by omega) h3 (by omega) h5
          · exact rp_plain s w (by omega) (by omega) h3 (by omega) h5
      · exact rp_mark s w (by omega) (by omega) h3

end Go.Proofs.Ytdjhhnolcafkiaa
