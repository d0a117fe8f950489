/- What a packet must be to be told: the tests, and its length. -/
import Derived.Test.YtdjhhnolcafkiaaRead
namespace Go.Proofs.Ytdjhhnolcafkiaa
open Go.RowKit

set_option maxHeartbeats 1000000 in
theorem headFits_any (mk ex : Bool) (ty nu ti so pr pa : Int) (cv : Value) (cl : List Int) (en py : ByteArray) (w : World) (B : Nat) (hBw : B ≤ w.heap.size) (hv : Pk.IsInts B w cv cl) (hl : cl.length ≤ 17592186044416) :
    Calls Try.prog 67 #[.agg #[.bool mk, .int .i64 ty, .int .i64 nu, .int .i64 ti, .int .i64 so, cv, .bool ex, .int .i64 pr, .string en, .string py, .int .i64 pa]] w
      fun e w' => e = .returned (.bool (Pk.headOk ty nu ti so cl)) ∧ Below w.heap.size w w' := by
  have hvo : ∀ o, Pk.IsInts B (w.alloc o) cv cl := fun o => hv.alloc hBw o
  have Hv : Hid (∀ o, Pk.IsInts B (w.alloc o) cv cl) := hvo
  clear hvo
  obtain ⟨ao, cap, rfl, _⟩ := hv
  go_enter Try.func67, Try.ntmps67
  go_wp2_with (first
    | (go_at_call 69; refine (within_any _ _ _).mono ?_; rintro e w' ⟨rfl, rfl⟩)
    | (go_at_call 98; refine (allWithin_any B _ cl _ _ ?_ hl).mono ?_; exact Hv.out _; rintro e w' ⟨rfl, rfl⟩))
  all_goals go_ret
  all_goals refine ⟨Pk.ret_bool ?_, ?_⟩
  all_goals first | exact (Below.refl _ _).alloc (Nat.le_refl _) _ | skip
  all_goals unfold Pk.headOk
  all_goals first
    | (rw [decide_eq_false ‹¬(0 ≤ ty ∧ ty ≤ 127)›]; simp)
    | (rw [decide_eq_false ‹¬(0 ≤ nu ∧ nu ≤ 65535)›]; simp)
    | (rw [decide_eq_false ‹¬(0 ≤ ti ∧ ti ≤ 4294967295)›]; simp)
    | (rw [decide_eq_false ‹¬(0 ≤ so ∧ so ≤ 4294967295)›]; simp)
    | (rw [decide_eq_false (p := cl.length ≤ 15) (by omega)]; simp)
    | (rw [decide_eq_true ‹0 ≤ ty ∧ ty ≤ 127›, decide_eq_true ‹0 ≤ nu ∧ nu ≤ 65535›, decide_eq_true ‹0 ≤ ti ∧ ti ≤ 4294967295›, decide_eq_true ‹0 ≤ so ∧ so ≤ 4294967295›, decide_eq_true (p := cl.length ≤ 15) (by omega)]; simp)

set_option maxHeartbeats 1000000 in
theorem extensionFits_any (mk ex : Bool) (ty nu ti so pr pa : Int) (cv : Value) (en py : ByteArray) (w : World) (hen : en.size ≤ maxLen) :
    Calls Try.prog 68 #[.agg #[.bool mk, .int .i64 ty, .int .i64 nu, .int .i64 ti, .int .i64 so, cv, .bool ex, .int .i64 pr, .string en, .string py, .int .i64 pa]] w
      fun e w' => e = .returned (.bool (Pk.extOk ex pr en)) ∧ Below w.heap.size w w' := by
  unfold maxLen at hen
  cases ex
  all_goals
    go_enter Try.func68, Try.ntmps68
    go_wp2_with (first
      | (go_at_call 69; refine (within_any _ _ _).mono ?_; rintro e w' ⟨rfl, rfl⟩))
  all_goals go_ret
  all_goals refine ⟨Pk.ret_bool ?_, (Below.refl _ _).alloc (Nat.le_refl _) _⟩
  all_goals first | rw [Pk.extOk_no] | rw [Pk.extOk_yes]
  all_goals first
    | (rw [decide_eq_false ‹¬pr = 0›]; rfl)
    | (rw [decide_eq_false ‹¬(0 ≤ pr ∧ pr ≤ 65535)›]; rfl)
    | (rw [decide_eq_true ‹pr = 0›, Bool.true_and]; exact Pk.isEmpty_size en)
    | (rw [decide_eq_true ‹0 ≤ pr ∧ pr ≤ 65535›, Bool.true_and, Bool.eq_iff_iff]; simp; omega)

set_option maxHeartbeats 1000000 in
theorem packetLength_any (mk ex : Bool) (ty nu ti so pr pa : Int) (ao : Option Addr) (n cap : Nat) (en py : ByteArray) (w : World) (hen : en.size ≤ 140737488355328) (hpy : py.size ≤ 140737488355328) (hn : n ≤ 15) (hp0 : 0 ≤ pa) (hp1 : pa ≤ 255) :
    Calls Try.prog 70 #[.agg #[.bool mk, .int .i64 ty, .int .i64 nu, .int .i64 ti, .int .i64 so, .slice ao n cap, .bool ex, .int .i64 pr, .string en, .string py, .int .i64 pa]] w
      fun e w' => e = .returned (.int .i64 (12 + 4 * n + py.size + pa + if ex then 4 + en.size else 0)) ∧ Below w.heap.size w w' := by
  cases ex
  all_goals
    go_enter Try.func70, Try.ntmps70
    go_wp2
    go_ret
    refine ⟨Pk.ret_int ?_, (Below.refl _ _).alloc (Nat.le_refl _) _⟩
    simp <;> omega

end Go.Proofs.Ytdjhhnolcafkiaa
