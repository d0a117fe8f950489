/- The document's answer: TellPacket, whole. -/
import Derived.Test.YtdjhhnolcafkiaaRefTell2
import Derived.Test.YtdjhhnolcafkiaaRefTell3
namespace Go.Proofs.Ytdjhhnolcafkiaa
open Go.RowKit Pk

theorem refTell_any (mk ex : Bool) (ty nu ti so pr pa : Int) (cv : Value) (cl : List Int) (en py : ByteArray) (w : World) (B : Nat) (hBw : B ≤ w.heap.size) (hv : IsInts B w cv cl) (hn : cl.length ≤ 17592186044416)
    (hen : en.size ≤ 140737488355328) (hpy : py.size ≤ 140737488355328) :
    Calls Try.prog 36 #[.agg #[.bool mk, .int .i64 ty, .int .i64 nu, .int .i64 ti, .int .i64 so, cv, .bool ex, .int .i64 pr, .string en, .string py, .int .i64 pa]] w
      fun e w' => e = .returned (.tuple #[.string (tellR mk ex ty nu ti so pr pa cl en py).1, .int .i64 (tellR mk ex ty nu ti so pr pa cl en py).2]) ∧ Below w.heap.size w w' := by
  by_cases hok : firstOk ex ty nu ti so pr pa cl.length en
  · cases ex
    · exact refTell_none mk ty nu ti so pr pa cv cl en py w B hBw hv hen hpy hok
    · exact refTell_ext mk ty nu ti so pr pa cv cl en py w B hBw hv hen hpy hok
  · obtain ⟨ao, cap, rfl, hc⟩ := hv
    refine (refTell_first mk ex ty nu ti so pr pa ao cl.length cap en py w hn (by unfold maxLen; omega) hok).mono ?_
    rintro e w' ⟨rfl, hb⟩
    have hR := tellR_no (mk := mk) (py := py) (show tellOk ex ty nu ti so pr pa cl en = false by
      cases e : tellOk ex ty nu ti so pr pa cl en with
      | false => rfl
      | true => exact absurd (firstOk_of e) hok)
    exact ⟨by rw [hR], hb⟩

end Go.Proofs.Ytdjhhnolcafkiaa
