/- A packet is read: the texts that are none from their head. -/
import Derived.Test.YtdjhhnolcafkiaaReadHead
import Derived.Test.YtdjhhnolcafkiaaParse
import Derived.Test.YtdjhhnolcafkiaaClone
import Derived.Test.YtdjhhnolcafkiaaJump
namespace Go.Proofs.Ytdjhhnolcafkiaa
open Go.RowKit Pk
namespace Pk
def wrongV : Value := .tuple #[.agg #[.bool false, .int .i64 0, .int .i64 0, .int .i64 0, .int .i64 0, .slice none 0 0, .bool false, .int .i64 0, .string ⟨#[]⟩, .string ⟨#[]⟩, .int .i64 0], .int .i64 1]
def okV (x : PP) (v : Value) : Value := .tuple #[.agg #[.bool x.mrk, .int .i64 x.ty, .int .i64 x.nu, .int .i64 x.ti, .int .i64 x.so, v, .bool x.ex, .int .i64 x.pr, .string x.en, .string x.py, .int .i64 x.pa], .int .i64 0]
/-- what is answered -/
def ReadAs (r : Option PP) (B : Nat) (e : Ending) (w : World) : Prop :=
  match r with
  | some x => ∃ v, e = .returned (okV x v) ∧ OwnInts w B v x.cl
  | none => e = .returned wrongV
end Pk

set_option maxHeartbeats 1000000 in
theorem read_short (s : ByteArray) (w : World) (hs : s.size < 12) :
    Calls Try.prog 47 #[.string s] w fun e w' => Below w.heap.size w w' ∧ ReadAs (readP s) w.heap.size e w' := by
  have hi : (s.size : Int) < 12 := by omega
  have HR : Hid (readP s = none) := readP_bad s (by unfold bad1; exact decide_eq_true (.inl hs))
  go_enter Try.func47, Try.ntmps47
  go_wp2
  refine wp_scope_fwd 0 rfl ?_
  go_wp2
  go_step3
  refine jump_here 0 ?_
  go_wp2
  rw [Exit.noGoto_ret]
  refine bodyPost_ret (v := wrongV) (by simp [results, Try.results47, wrongV, go_sem]) rfl ⟨?_, ?_⟩
  · exact ((Below.refl _ _).alloc (Nat.le_refl _) _).alloc (by simp) _
  · rw [HR.out]
    rfl

set_option maxHeartbeats 1000000 in
theorem read_long (s : ByteArray) (w : World) (hs : 1500 < s.size) (hs2 : s.size ≤ maxLen) :
    Calls Try.prog 47 #[.string s] w fun e w' => Below w.heap.size w w' ∧ ReadAs (readP s) w.heap.size e w' := by
  unfold maxLen at hs2
  have hi : (1500 : Int) < s.size := by omega
  have HR : Hid (readP s = none) := readP_bad s (by unfold bad1; exact decide_eq_true (.inr (.inl hs)))
  go_enter Try.func47, Try.ntmps47
  go_wp2
  refine wp_scope_fwd 0 rfl ?_
  go_wp2
  go_step3
  refine jump_here 0 ?_
  go_wp2
  rw [Exit.noGoto_ret]
  refine bodyPost_ret (v := wrongV) (by simp [results, Try.results47, wrongV, go_sem]) rfl ⟨?_, ?_⟩
  · exact ((Below.refl _ _).alloc (Nat.le_refl _) _).alloc (by simp) _
  · rw [HR.out]
    rfl

set_option maxHeartbeats 1000000 in
theorem read_mark (s : ByteArray) (w : World) (hs : 12 ≤ s.size) (hs2 : s.size ≤ 1500) (hm : (B0 s).toNat / 64 ≠ 2) :
    Calls Try.prog 47 #[.string s] w fun e w' => Below w.heap.size w w' ∧ ReadAs (readP s) w.heap.size e w' := by
  have hi : (12 : Int) ≤ s.size := by omega
  have hi2 : (s.size : Int) ≤ 1500 := by omega
  have i0 : (0 : Int) < s.size := by omega
  have HR : Hid (readP s = none) := readP_bad s (by unfold bad1; exact decide_eq_true (.inr (.inr hm)))
  have j0 : ∀ W : World, (Instr.index 9 (.string s) (.int .i64 0)).run Try.prog W = .ok (.int .u8 ((B0 s).toNat : Int)) W := fun W => by
    rw [run_index_string W 9 s .i64 0 Try.underlying9, dif_pos ⟨by omega, i0⟩, ← get0 s (by omega)]; rfl
  have hb := (B0 s).toNat_lt
  have Hm : Hid ((B0 s).toNat / 64 ≠ 2) := hm
  clear hm
  have hne : (((B0 s).toNat : Int) / 64 != 2) = true := by have := Hm.out; rw [bne_iff_ne]; omega
  go_enter Try.func47, Try.ntmps47
  go_wp2
  refine wp_scope_fwd 0 rfl ?_
  go_wp2
  go_step3
  refine jump_here 0 ?_
  go_wp2
  rw [Exit.noGoto_ret]
  refine bodyPost_ret (v := wrongV) (by simp [results, Try.results47, wrongV, go_sem]) rfl ⟨?_, ?_⟩
  · exact ((Below.refl _ _).alloc (Nat.le_refl _) _).alloc (by simp) _
  · rw [HR.out]
    rfl

end Go.Proofs.Ytdjhhnolcafkiaa
