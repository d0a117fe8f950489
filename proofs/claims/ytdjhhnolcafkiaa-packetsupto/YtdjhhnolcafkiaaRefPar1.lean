/- The document reads a packet: the texts that are none from their head. -/
import Derived.Test.YtdjhhnolcafkiaaRefSt
namespace Go.Proofs.Ytdjhhnolcafkiaa
open Go.RowKit Pk

set_option maxRecDepth 100000 in
set_option maxHeartbeats 4000000 in
theorem rp_short (s : ByteArray) (w : World) (hs : s.size < 12) :
    Calls Try.prog 39 #[.string s] w fun e w' => Below w.heap.size w w' ∧ ReadAs (readP s) w.heap.size e w' := by
  have hi : (s.size : Int) < 12 := by omega
  have HR : Hid (readP s = none) := readP_bad s (by unfold bad1; exact decide_eq_true (.inl hs))
  go_enter Try.func39, Try.ntmps39
  go_wp2
  refine bodyPost_ret (v := wrongV) (by simp [results, Try.results39, wrongV, go_sem]) rfl ⟨?_, ?_⟩
  · exact ((Below.refl _ _).alloc (Nat.le_refl _) _).alloc (by simp) _
  · rw [HR.out]
    rfl

set_option maxRecDepth 100000 in
set_option maxHeartbeats 4000000 in
theorem rp_long (s : ByteArray) (w : World) (hs : 1500 < s.size) (hs2 : s.size ≤ maxLen) :
    Calls Try.prog 39 #[.string s] w fun e w' => Below w.heap.size w w' ∧ ReadAs (readP s) w.heap.size e w' := by
  unfold maxLen at hs2
  have hi : (1500 : Int) < s.size := by omega
  have HR : Hid (readP s = none) := readP_bad s (by unfold bad1; exact decide_eq_true (.inr (.inl hs)))
  go_enter Try.func39, Try.ntmps39
  go_wp2
  refine bodyPost_ret (v := wrongV) (by simp [results, Try.results39, wrongV, go_sem]) rfl ⟨?_, ?_⟩
  · exact ((Below.refl _ _).alloc (Nat.le_refl _) _).alloc (by simp) _
  · rw [HR.out]
    rfl

set_option maxRecDepth 100000 in
set_option maxHeartbeats 4000000 in
theorem rp_mark (s : ByteArray) (w : World) (hs : 12 ≤ s.size) (hs2 : s.size ≤ 1500) (hm : (B0 s).toNat / 64 ≠ 2) :
    Calls Try.prog 39 #[.string s] w fun e w' => Below w.heap.size w w' ∧ ReadAs (readP s) w.heap.size e w' := by
  have hi : (12 : Int) ≤ s.size := by omega
  have hi2 : (s.size : Int) ≤ 1500 := by omega
  have i0 : (0 : Int) < s.size := by omega
  have j0 : ∀ W : World, (Instr.index 9 (.string s) (.int .i64 0)).run Try.prog W = .ok (.int .u8 ((B0 s).toNat : Int)) W := fun W => by
    rw [run_index_string W 9 s .i64 0 Try.underlying9, dif_pos ⟨by omega, i0⟩, ← get0 s (by omega)]; rfl
  have hb := (B0 s).toNat_lt
  have HR : Hid (readP s = none) := readP_bad s (by unfold bad1; exact decide_eq_true (.inr (.inr hm)))
  by_cases hlo : (B0 s).toNat < 128
  · have hlo' : ((B0 s).toNat : Int) < 128 := by omega
    go_enter Try.func39, Try.ntmps39
    go_wp2
    refine bodyPost_ret (v := wrongV) (by simp [results, Try.results39, wrongV, go_sem]) rfl ⟨?_, ?_⟩
    · exact ((Below.refl _ _).alloc (Nat.le_refl _) _).alloc (by simp) _
    · rw [HR.out]
      rfl
  · have hlo' : ¬ ((B0 s).toNat : Int) < 128 := by omega
    have hhi : (191 : Int) < ((B0 s).toNat : Int) := by omega
    go_enter Try.func39, Try.ntmps39
    go_wp2
    refine bodyPost_ret (v := wrongV) (by simp [results, Try.results39, wrongV, go_sem]) rfl ⟨?_, ?_⟩
    · exact ((Below.refl _ _).alloc (Nat.le_refl _) _).alloc (by simp) _
    · rw [HR.out]
      rfl

set_option maxRecDepth 100000 in
set_option maxHeartbeats 4000000 in
theorem rp_at (s : ByteArray) (w : World) (hs : 12 ≤ s.size) (hs2 : s.size ≤ 1500) (hm : (B0 s).toNat / 64 = 2) (hat : s.size < at0 s) :
    Calls Try.prog 39 #[.string s] w fun e w' => Below w.heap.size w w' ∧ ReadAs (readP s) w.heap.size e w' := by
  have hi : (12 : Int) ≤ s.size := by omega
  have hi2 : (s.size : Int) ≤ 1500 := by omega
  have i0 : (0 : Int) < s.size := by omega
  have hbad : bad1 s = false := by unfold bad1; exact decide_eq_false (by omega)
  have HR : Hid (readP s = none) := readP_at s hbad hat
  clear hbad
  have j0 : ∀ W : World, (Instr.index 9 (.string s) (.int .i64 0)).run Try.prog W = .ok (.int .u8 ((B0 s).toNat : Int)) W := fun W => by
    rw [run_index_string W 9 s .i64 0 Try.underlying9, dif_pos ⟨by omega, i0⟩, ← get0 s (by omega)]; rfl
  have hlo : ¬ ((B0 s).toNat : Int) < 128 := by omega
  have hhi : ¬ (191 : Int) < ((B0 s).toNat : Int) := by omega
  obtain ⟨A, hA⟩ : ∃ A, A = at0 s := ⟨_, rfl⟩
  have hA1 : (12 + 4 * (((B0 s).toNat : Int) % 16)) = (A : Int) := by rw [hA]; unfold at0; omega
  have hA2 : (s.size : Int) < A := by rw [hA]; omega
  have hA3 : 12 ≤ A ∧ A ≤ 72 := by rw [hA]; unfold at0; omega
  clear hm hat hA
  go_enter Try.func39, Try.ntmps39
  go_wp2
  refine bodyPost_ret (v := wrongV) (by simp [results, Try.results39, wrongV, go_sem]) rfl ⟨?_, ?_⟩
  · exact ((Below.refl _ _).alloc (Nat.le_refl _) _).alloc (by simp) _
  · rw [HR.out]
    rfl

end Go.Proofs.Ytdjhhnolcafkiaa
