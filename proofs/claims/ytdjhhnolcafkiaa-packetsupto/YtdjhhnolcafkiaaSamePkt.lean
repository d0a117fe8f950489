/- menderlaw.samePacket: two packets of the same parts are the same. -/
import Derived.Test.YtdjhhnolcafkiaaSameNums
namespace Go.Proofs.Ytdjhhnolcafkiaa
open Go.RowKit Pk

set_option maxHeartbeats 1000000 in
theorem samePacket_any (mk ex : Bool) (ty nu ti so pr pa : Int) (v1 v2 : Value) (cl : List Int) (en py : ByteArray) (w : World) (h1 : IsInts w.heap.size w v1 cl) (h2 : IsInts w.heap.size w v2 cl) (hl : cl.length ≤ 17592186044416) :
    Calls Try.prog 37 #[.agg #[.bool mk, .int .i64 ty, .int .i64 nu, .int .i64 ti, .int .i64 so, v1, .bool ex, .int .i64 pr, .string en, .string py, .int .i64 pa], .agg #[.bool mk, .int .i64 ty, .int .i64 nu, .int .i64 ti, .int .i64 so, v2, .bool ex, .int .i64 pr, .string en, .string py, .int .i64 pa]] w
      fun e w' => e = .returned (.bool true) ∧ Below w.heap.size w w' := by
  have H1 : Hid (∀ o o', IsInts w.heap.size ((w.alloc o).alloc o') v1 cl) := fun o o' => (h1.alloc (Nat.le_refl _) o).alloc (by simp) o'
  have H2 : Hid (∀ o o', IsInts w.heap.size ((w.alloc o).alloc o') v2 cl) := fun o o' => (h2.alloc (Nat.le_refl _) o).alloc (by simp) o'
  obtain ⟨a1, c1, rfl, _⟩ := h1
  obtain ⟨a2, c2, rfl, _⟩ := h2
  go_enter Try.func37, Try.ntmps37
  go_wp2_with fail
  refine (sameNumbers_any w.heap.size _ _ cl cl _ (H1.out _ _) (H2.out _ _) hl hl).mono ?_
  rintro e w1 ⟨rfl, n, rfl⟩
  rw [decide_eq_true (rfl : cl = cl)]
  go_wp2
  go_ret
  exact ⟨rfl, below_drewN (((Below.refl _ _).alloc (Nat.le_refl _) _).alloc (by simp) _) _⟩

end Go.Proofs.Ytdjhhnolcafkiaa
