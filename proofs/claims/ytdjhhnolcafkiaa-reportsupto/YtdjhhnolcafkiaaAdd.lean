/- The writers: each appends its bytes. -/
import Derived.Test.YtdjhhnolcafkiaaBuf
import Derived.Test.YtdjhhnolcafkiaaRead
namespace Go.Proofs.Ytdjhhnolcafkiaa
open Go.RowKit Pk

set_option maxHeartbeats 1000000 in
theorem addNumber_any (base g n cap : Nat) (l : List UInt8) (x : Nat) (k : Nat) (w : World) (_hx : x < 4294967296) (hk : k ≤ 4) (hroom : n + k ≤ cap) (hB : Buf w base g n cap l) :
    Calls Try.prog 81 #[.slice (some ⟨g, 0, none⟩) n cap, .int .i64 x, .int .i64 k] w fun e w' =>
      e = .returned (.slice (some ⟨g, 0, none⟩) (n + k) cap) ∧ Buf w' base g (n + k) cap (l ++ told x k) ∧ w.grownBy w' (some g) := by
  go_enter Try.func81, Try.ntmps81
  go_wp2
  go_loopw [0, 9] (fun v i wr => ∃ j : Nat, j ≤ k ∧ i = .int .i64 j ∧ v = .slice (some ⟨g, 0, none⟩) (n + j) cap ∧ Buf wr base g (n + j) cap (l ++ (told x k).take j) ∧ w.grownBy wr (some g)) (fun _ i _ => k - (intOf i).toNat)
  case atStart => exact ⟨0, Nat.zero_le _, rfl, rfl, by simpa using hB, World.grownBy.refl _ _⟩
  case round =>
    obtain ⟨j, hj, rfl, rfl, hBr, hgr⟩ := hrel
    by_cases hlt : j < k
    · have hb := byte_at x (k - 1 - j)
      have Hb : Hid ((x : Int) / 2 ^ (8 * (k - 1 - j)) % 256 = ((UInt8.ofNat (x / 256 ^ (k - 1 - j) % 256)).toNat : Int)) := hb
      clear hb
      go_wp2_with (at_builtin; refine wl_bytes rfl (.tmp 12) (.tmp 21) rfl rfl (hBr.alloc _) _ 1 1 [UInt8.ofNat (x / 256 ^ (k - 1 - j) % 256)] rfl rfl (new_one _ _ rfl _ _ _ (congrArg (Value.int .u8) Hb.out)) (by omega) ?_; intro w1 hB1 hg1)
      have R := hg1
      go_roundw
      case rel => exact ⟨j + 1, by omega, by go_num, rfl, by rw [told_take x k j hlt, ← List.append_assoc]; exact hB1, grown_trans hgr (grown_trans (World.grownBy_alloc _ _ _) hg1)⟩
      case measure => simp [intOf]; omega
    · go_wp2
      go_ret
      have e : j = k := by omega
      subst e
      refine ⟨rfl, ?_, hgr⟩
      rw [List.take_of_length_le (by rw [told_length]; exact Nat.le_refl _)] at hBr
      exact hBr

theorem addNumber_int (base g n cap : Nat) (l : List UInt8) (x : Int) (k : Nat) (w : World) (hx0 : 0 ≤ x) (hx : x < 4294967296) (hk : k ≤ 4) (hroom : n + k ≤ cap) (hB : Buf w base g n cap l) :
    Calls Try.prog 81 #[.slice (some ⟨g, 0, none⟩) n cap, .int .i64 x, .int .i64 k] w fun e w' =>
      e = .returned (.slice (some ⟨g, 0, none⟩) (n + k) cap) ∧ Buf w' base g (n + k) cap (l ++ told x.toNat k) ∧ w.grownBy w' (some g) := by
  obtain ⟨q, rfl⟩ := Int.eq_ofNat_of_zero_le hx0
  rw [Int.toNat_natCast]
  exact addNumber_any base g n cap l q k w (by omega) hk hroom hB

set_option maxHeartbeats 1000000 in
theorem addPadding_any (base g n cap : Nat) (l : List UInt8) (p : Nat) (w : World) (hp : p ≤ 255) (hroom : n + p ≤ cap) (hB : Buf w base g n cap l) :
    Calls Try.prog 73 #[.slice (some ⟨g, 0, none⟩) n cap, .int .i64 p] w fun e w' =>
      e = .returned (.slice (some ⟨g, 0, none⟩) (n + p) cap) ∧ Buf w' base g (n + p) cap (l ++ padB p) ∧ w.grownBy w' (some g) := by
  by_cases h0 : p = 0
  · subst h0
    go_enter Try.func73, Try.ntmps73
    go_wp2
    go_ret
    exact ⟨rfl, by simpa [padB] using hB, World.grownBy.refl _ _⟩
  · obtain ⟨m, hm⟩ : ∃ m, p = m + 1 := ⟨p - 1, by omega⟩
    subst hm
    have Hp : Hid (padB (m + 1) = List.replicate m 0 ++ [UInt8.ofNat (m + 1)]) := by show _ = _; simp [padB]
    have hne : (((m + 1 : Nat) : Int) == 0) = false := by simp; omega
    have Hb : Hid (((m : Int) + 1) = ((UInt8.ofNat (m + 1)).toNat : Int)) := by
      show _ = _
      rw [UInt8.toNat_ofNat']; omega
    clear h0
    go_enter Try.func73, Try.ntmps73
    go_wp2_with (first
      | (at_builtin; refine wl_zeros rfl (.tmp 8) (.tmp 10) rfl rfl hB _ m ?_ (by omega) rfl (by omega) ?_; (first | rfl | omega); intro w1 hB1 hg1)
      | (at_builtin; refine wl_bytes rfl (.tmp 12) (.tmp 15) rfl rfl (hB1.alloc _) _ 1 1 [UInt8.ofNat (m + 1)] rfl rfl (new_one _ _ rfl _ _ _ (congrArg (Value.int .u8) Hb.out)) (by omega) ?_; intro w2 hB2 hg2))
    go_ret
    refine ⟨rfl, ?_, grown_trans hg1 (grown_trans (World.grownBy_alloc _ _ _) hg2)⟩
    rw [Hp.out, ← List.append_assoc]
    exact hB2

set_option maxHeartbeats 1000000 in
theorem addExtension_any (base g n cap : Nat) (l : List UInt8) (mk ex : Bool) (ty nu ti so pa : Int) (pr : Nat) (cv : Value) (en py : ByteArray) (w : World)
    (hpr : pr < 65536) (hen : en.size ≤ 2000) (hroom : n + (if ex then 4 + en.size else 0) ≤ cap) (hB : Buf w base g n cap l) :
    Calls Try.prog 72 #[.slice (some ⟨g, 0, none⟩) n cap, .agg #[.bool mk, .int .i64 ty, .int .i64 nu, .int .i64 ti, .int .i64 so, cv, .bool ex, .int .i64 pr, .string en, .string py, .int .i64 pa]] w fun e w' =>
      e = .returned (.slice (some ⟨g, 0, none⟩) (n + (if ex then 4 + en.size else 0)) cap) ∧ Buf w' base g (n + (if ex then 4 + en.size else 0)) cap (l ++ extB ex pr en.data.toList) ∧ w.grownBy w' (some g) := by
  cases ex
  · go_enter Try.func72, Try.ntmps72
    go_wp2
    go_ret
    exact ⟨rfl, by simpa [extB] using hB.alloc _, World.grownBy_alloc _ _ _⟩
  · have hroom' : n + 4 + en.size ≤ cap := by simpa [Nat.add_assoc] using hroom
    have hne : w.heap.size ≠ g := by have := hB.lt; omega
    clear hroom
    have Hx : Hid (extB true pr en.data.toList = told pr 2 ++ told (en.size / 4) 2 ++ en.data.toList) := by show _ = _; rw [Lib.size_eq]; rfl
    go_enter Try.func72, Try.ntmps72
    go_wp2_with fail
    refine (addNumber_any base g n cap l pr 2 _ (by omega) (by omega) (by omega) (hB.alloc _)).mono ?_
    rintro e w1 ⟨rfl, hB1, hg1⟩
    have hc1 : ∀ o, w1.cell? ⟨w.heap.size, o, none⟩ = _ := fun o => World.cell?_of_block (a := ⟨w.heap.size, o, none⟩) (hg1.block w.heap.size (by simp) (by simpa using hne))
    go_wp2_with fail
    refine (addNumber_int base g (n + 2) cap _ _ 2 _ (by omega) (by omega) (by omega) (by omega) hB1).mono ?_
    rintro e w2 ⟨rfl, hB2, hg2⟩
    have hc2 : ∀ o, w2.cell? ⟨w.heap.size, o, none⟩ = w1.cell? ⟨w.heap.size, o, none⟩ := fun o => World.cell?_of_block (a := ⟨w.heap.size, o, none⟩) (hg2.block w.heap.size (by have := hg1.size; simp at this; omega) (by simpa using hne))
    go_wp2_with (at_builtin; refine wl_string rfl (.tmp 19) (.tmp 21) rfl rfl hB2 en rfl (by omega) ?_; intro w3 hB3 hg3)
    go_ret
    refine ⟨?_, ?_, grown_trans (World.grownBy_alloc _ _ _) (grown_trans hg1 (grown_trans hg2 hg3))⟩
    · simp [Nat.add_assoc]
    · have e : (((en.size : Int) / 4).toNat) = en.size / 4 := by omega
      rw [e] at hB3
      rw [Hx.out]
      simpa [Nat.add_assoc, List.append_assoc] using hB3

end Go.Proofs.Ytdjhhnolcafkiaa
