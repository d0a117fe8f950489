/- The document's answer: its small functions. -/
import Derived.Test.YtdjhhnolcafkiaaPure
import Derived.Deep.RegionHeld3
namespace Go.Proofs.Ytdjhhnolcafkiaa
open Go.RowKit Pk

set_option maxHeartbeats 400000 in
theorem refIn_any (a b : Int) (w : World) :
    Calls Try.prog 61 #[.int .i64 a, .int .i64 b] w fun e w' => e = .returned (.bool (decide (0 ≤ a ∧ a ≤ b))) ∧ w' = w := by
  by_cases h0 : 0 ≤ a
  · by_cases h1 : a ≤ b
    · go_enter Try.func61, Try.ntmps61
      go_wp2
      go_ret
      exact ⟨by simp [h0, h1], rfl⟩
    · go_enter Try.func61, Try.ntmps61
      go_wp2
      go_ret
      exact ⟨by simp [h1], rfl⟩
  · have hd : decide (0 ≤ a) = false := by simpa using h0
    go_enter Try.func61, Try.ntmps61
    go_wp2
    go_ret
    exact ⟨by simp, rfl⟩

theorem ref_byte (s : ByteArray) (a k : Nat) (h : a + k < s.size) : s[a + k] = (s.data.toList.drop a)[k]'(by rw [List.length_drop, ← Lib.size_eq]; omega) := by
  rw [List.getElem_drop]; rfl

set_option maxHeartbeats 400000 in
theorem refNumber_any (s : ByteArray) (a n : Nat) (w : World) (hs : s.size ≤ maxLen) (hn : n ≤ 4) (ha : a + n ≤ s.size) :
    Calls Try.prog 64 #[.string s, .int .i64 a, .int .i64 n] w fun e w' => e = .returned (.int .i64 (num ((s.data.toList.drop a).take n))) ∧ w' = w := by
  unfold maxLen at hs
  have hl : (s.data.toList.drop a).length = s.size - a := by rw [List.length_drop, ← Lib.size_eq]
  have Hl : Hid ((s.data.toList.drop a).length = s.size - a) := hl
  clear hl
  go_enter Try.func64, Try.ntmps64
  go_wp2
  go_loop [7, 8] (fun v i => ∃ k : Nat, k ≤ n ∧ i = .int .i64 k ∧ v = .int .i64 (num ((s.data.toList.drop a).take k))) (fun _ i => n - (intOf i).toNat)
  case atStart => exact ⟨0, Nat.zero_le _, rfl, rfl⟩
  case round =>
    obtain ⟨k, hk, rfl, rfl⟩ := hrel
    have h1 := num_lt ((s.data.toList.drop a).take k)
    have h2 : ((s.data.toList.drop a).take k).length ≤ 4 := by rw [List.length_take]; omega
    have h3 : 256 ^ ((s.data.toList.drop a).take k).length ≤ 256 ^ 4 := Nat.pow_le_pow_right (by omega) h2
    have hm : num ((s.data.toList.drop a).take k) < 4294967296 := by omega
    clear h1 h2 h3
    by_cases hlt : k < n
    · have hi : a + k < s.size := by omega
      have Hs : Hid (num ((s.data.toList.drop a).take (k + 1)) = num ((s.data.toList.drop a).take k) * 256 + (s[a + k]).toNat) := by
        show _ = _
        rw [List.take_succ_eq_append_getElem (by rw [Hl.out]; omega), num_snoc, ref_byte s a k hi]
      have hb := (s[a + k]).toNat_lt
      generalize num ((s.data.toList.drop a).take k) = m at *
      go_wp2
      go_round
      case rel => exact ⟨k + 1, by omega, by go_num, by rw [Hs.out]; simp; omega⟩
      case measure => simp [intOf]; omega
    · go_wp2
      go_ret
      have e : k = n := by omega
      subst e
      exact ⟨rfl, rfl⟩

set_option maxHeartbeats 400000 in
theorem refBit_any (B k : Nat) (w : World) (hb2 : B ≤ 65535) (hk : k ≤ 16) :
    Calls Try.prog 65 #[.int .i64 B, .int .i64 k] w fun e w' => e = .returned (.bool (decide (B / 2 ^ k % 2 = 1))) ∧ w' = w := by
  go_enter Try.func65, Try.ntmps65
  go_wp2
  go_loop [0, 5] (fun v i => ∃ j : Nat, j ≤ k ∧ i = .int .i64 j ∧ v = .int .i64 ((B / 2 ^ j : Nat) : Int)) (fun _ i => k - (intOf i).toNat)
  case atStart => exact ⟨0, Nat.zero_le _, rfl, by simp⟩
  case round =>
    obtain ⟨j, hj, rfl, rfl⟩ := hrel
    have hle : B / 2 ^ j ≤ B := Nat.div_le_self _ _
    have Hn : Hid (B / 2 ^ (j + 1) = B / 2 ^ j / 2) := by show _ = _; rw [Nat.pow_succ, Nat.div_div_eq_div_mul]
    obtain ⟨m, hm⟩ : ∃ m, B / 2 ^ j = m := ⟨_, rfl⟩
    rw [hm] at hle Hn
    have Hm : Hid (B / 2 ^ j = m) := hm
    rw [hm]
    clear hm
    by_cases hlt : j < k
    · go_wp2
      go_round
      case rel => exact ⟨j + 1, by omega, by go_num, by rw [Hn.out]; simp⟩
      case measure => simp [intOf]; omega
    · have e : j = k := by omega
      subst e
      go_wp2
      go_ret
      refine ⟨ret_bool ?_, rfl⟩
      rw [Hm.out, Bool.eq_iff_iff]
      simp
      omega

end Go.Proofs.Ytdjhhnolcafkiaa
