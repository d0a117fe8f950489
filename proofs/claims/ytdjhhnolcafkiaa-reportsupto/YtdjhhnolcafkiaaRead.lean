/- The readers of numbers: what each call answers. -/
import Derived.Test.YtdjhhnolcafkiaaProg
import Derived.Test.YtdjhhnolcafkiaaNum
import Derived.WalkKit
import Derived.WalkSpells
import Derived.WalkLawsBesides
namespace Go.Proofs.Ytdjhhnolcafkiaa
open Go.RowKit

set_option maxHeartbeats 400000 in
theorem within_any (a b : Int) (w : World) :
    Calls Try.prog 69 #[.int .i64 a, .int .i64 b] w fun e w' => e = .returned (.bool (decide (0 ≤ a ∧ a ≤ b))) ∧ w' = w := by
  by_cases h0 : 0 ≤ a
  · by_cases h1 : a ≤ b
    · go_enter Try.func69, Try.ntmps69
      go_wp2
      go_ret
      exact ⟨by simp [h0, h1], rfl⟩
    · go_enter Try.func69, Try.ntmps69
      go_wp2
      go_ret
      exact ⟨by simp [h1], rfl⟩
  · have hd : decide (0 ≤ a) = false := by simpa using h0
    go_enter Try.func69, Try.ntmps69
    go_wp2
    go_ret
    exact ⟨by simp, rfl⟩

set_option maxHeartbeats 400000 in
theorem readNumber_any (s : ByteArray) (w : World) (hs : s.size ≤ 4) :
    Calls Try.prog 76 #[.string s] w fun e w' => e = .returned (.int .i64 (Pk.num s.data.toList)) ∧ w' = w := by
  go_enter Try.func76, Try.ntmps76
  go_wp2
  go_loop [3, 7] (fun n i => ∃ k : Nat, k ≤ s.size ∧ i = .int .i64 k ∧ n = .int .i64 (Pk.num (s.data.toList.take k))) (fun _ i => s.size - (intOf i).toNat)
  case atStart => exact ⟨0, Nat.zero_le _, rfl, rfl⟩
  case round =>
    obtain ⟨k, hk, rfl, rfl⟩ := hrel
    by_cases hlt : k < s.size
    · go_wp2
      go_round
      case rel => exact ⟨k + 1, by omega, by go_num, by rw [Pk.num_byte s k hlt hs]⟩
      case measure => simp [intOf]; omega
    · go_wp2
      go_ret
      exact ⟨Pk.ret_int (by rw [Pk.take_all s k (by omega)]), rfl⟩

set_option maxHeartbeats 400000 in
theorem allNoughts_any (s : ByteArray) (w : World) (hs : s.size ≤ maxLen) :
    Calls Try.prog 78 #[.string s] w fun e w' => e = .returned (.bool (Pk.noughts s.data.toList)) ∧ w' = w := by
  unfold maxLen at hs
  go_enter Try.func78, Try.ntmps78
  go_wp2
  go_loop [6] (fun i => ∃ k : Nat, k ≤ s.size ∧ i = .int .i64 k ∧ Pk.noughts (s.data.toList.take k) = true) (fun i => s.size - (intOf i).toNat)
  case atStart => exact ⟨0, Nat.zero_le _, rfl, rfl⟩
  case round =>
    obtain ⟨k, hk, rfl, hn⟩ := hrel
    have Hn : Hid (Pk.noughts (s.data.toList.take k) = true) := hn
    clear hn
    by_cases hlt : k < s.size
    · have Hs : Hid (Pk.noughts (s.data.toList.take (k + 1)) = (s[k] == 0)) := by
        show _ = _
        rw [Pk.take_snoc s k hlt, Pk.noughts_snoc, Hn.out, Bool.true_and]
      by_cases hz : s[k].toNat = 0
      · have Hz : Hid (s[k].toNat = 0) := hz
        have hb : ((s[k].toNat : Int) != 0) = false := by simp [hz]
        clear hz
        go_wp2
        go_round
        case rel => exact ⟨k + 1, by omega, by go_num, by rw [Hs.out]; simpa using UInt8.toNat_inj.1 (Hz.out : s[k].toNat = (0 : UInt8).toNat)⟩
        case measure => simp [intOf]; omega
      · have Hz : Hid (s[k].toNat ≠ 0) := hz
        have hb : ((s[k].toNat : Int) != 0) = true := by simpa using hz
        clear hz
        go_wp2
        go_ret
        refine ⟨Pk.ret_bool (Pk.noughts_false _ (k + 1) ?_).symm, rfl⟩
        rw [Hs.out]
        exact beq_eq_false_iff_ne.2 fun e => Hz.out (by rw [e]; rfl)
    · go_wp2
      go_ret
      exact ⟨Pk.ret_bool (by rw [← Pk.take_all s k (by omega), Hn.out]), rfl⟩

set_option maxHeartbeats 400000 in
theorem pick_any (c n : Int) (w : World) (h0 : -9223372036854775808 ≤ c) (h1 : c ≤ 9223372036854775807) (hn : 1 ≤ n) (hn' : n ≤ 9223372036854775807) :
    Calls Try.prog 20 #[.int .i64 c, .int .i64 n] w fun e w' => e = .returned (.int .i64 (Pk.pickF c n)) ∧ w' = w := by
  by_cases hc : c < 0
  · have He : Hid (Pk.pickF c n = -((c + 1).tmod n)) := by show _ = _; unfold Pk.pickF; rw [if_pos hc, ← Int.neg_tmod]; exact (Int.tmod_eq_emod_of_nonneg (by omega)).symm
    go_enter Try.func20, Try.ntmps20
    go_wp2
    go_ret
    exact ⟨Pk.ret_int He.out.symm, rfl⟩
  · have He : Hid (Pk.pickF c n = c % n) := by show _ = _; unfold Pk.pickF; rw [if_neg hc]
    go_enter Try.func20, Try.ntmps20
    go_wp2
    go_ret
    exact ⟨Pk.ret_int He.out.symm, rfl⟩

set_option maxHeartbeats 400000 in
theorem cut_any (s : ByteArray) (n : Nat) (w : World) (_hs : s.size ≤ maxLen) (hn : n ≤ 10000) :
    Calls Try.prog 23 #[.string s, .int .i64 n] w fun e w' => e = .returned (.string (Pk.cutF s n)) ∧ w' = w := by
  unfold maxLen at _hs
  by_cases hc : n < s.size
  · have He : Hid (Pk.cutF s n = s.extract 0 n) := by show _ = _; unfold Pk.cutF; rw [if_pos hc]
    go_enter Try.func23, Try.ntmps23
    go_wp2
    go_ret
    exact ⟨Pk.ret_string He.out.symm, rfl⟩
  · have He : Hid (Pk.cutF s n = s) := by show _ = _; unfold Pk.cutF; rw [if_neg hc]
    go_enter Try.func23, Try.ntmps23
    go_wp2
    go_ret
    exact ⟨Pk.ret_string He.out.symm, rfl⟩

set_option maxHeartbeats 400000 in
theorem allWithin_any (B : Nat) (v : Value) (l : List Int) (m : Int) (w : World) (hv : Pk.IsInts B w v l) (hl : l.length ≤ 17592186044416) :
    Calls Try.prog 98 #[v, .int .i64 m] w fun e w' => e = .returned (.bool (Pk.allIn l m)) ∧ w' = w := by
  rcases hv.cases with ⟨ao, cap, rfl, rfl⟩ | ⟨b, off, cap, rfl, hpos, hb, hc⟩
  · go_enter Try.func98, Try.ntmps98
    go_wp2
    refine wp_loop_rounds 1 ?_; rw [rounds_succ]
    go_wp2
    go_ret
    exact ⟨rfl, rfl⟩
  · clear hv
    generalize hn : l.length = n at *
    have Hn : Hid (l.length = n) := hn
    clear hn
    go_enter Try.func98, Try.ntmps98
    go_wp2
    go_loop [9] (fun i => ∃ k : Nat, k ≤ n ∧ i = .int .i64 k ∧ Pk.allIn (l.take k) m = true) (fun i => n - (intOf i).toNat)
    case atStart => exact ⟨0, Nat.zero_le _, rfl, rfl⟩
    case round =>
      obtain ⟨k, hk, rfl, hok⟩ := hrel
      have Hok : Hid (Pk.allIn (l.take k) m = true) := hok
      clear hok
      by_cases hlt : k < n
      · have hck := hc k hlt
        have Hs : Hid (Pk.allIn (l.take (k + 1)) m = decide (0 ≤ l.getD k 0 ∧ l.getD k 0 ≤ m)) := by
          show _ = _
          rw [Pk.allIn_take_succ l k m (by rw [Hn.out]; exact hlt), Hok.out, Bool.true_and]
        clear hc
        generalize l.getD k 0 = q at *
        by_cases hq : 0 ≤ q ∧ q ≤ m
        · have Hq : Hid (decide (0 ≤ q ∧ q ≤ m) = true) := decide_eq_true hq
          clear hq
          go_wp2_with (go_at_call 69; refine (within_any _ _ _).mono ?_; rintro e w' ⟨rfl, rfl⟩; rw [Hq.out])
          go_round
          case rel => exact ⟨k + 1, by omega, by go_num, by rw [Hs.out, Hq.out]⟩
          case measure => simp [intOf]; omega
        · have Hq : Hid (decide (0 ≤ q ∧ q ≤ m) = false) := decide_eq_false hq
          clear hq
          go_wp2_with (go_at_call 69; refine (within_any _ _ _).mono ?_; rintro e w' ⟨rfl, rfl⟩; rw [Hq.out])
          go_ret
          exact ⟨Pk.ret_bool (Pk.allIn_false _ (k + 1) _ (by rw [Hs.out, Hq.out])).symm, rfl⟩
      · go_wp2
        go_ret
        refine ⟨Pk.ret_bool ?_, rfl⟩
        rw [← Hok.out, List.take_of_length_le (by have := Hn.out; omega)]

end Go.Proofs.Ytdjhhnolcafkiaa
