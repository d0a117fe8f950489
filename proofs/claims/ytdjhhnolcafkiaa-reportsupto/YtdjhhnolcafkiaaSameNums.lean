/- menderlaw.sameNumbers: are two lists the same? -/
import Derived.Test.YtdjhhnolcafkiaaWords
import Derived.Deep.QuietTactic
import Derived.BigQuiet
namespace Go.Proofs.Ytdjhhnolcafkiaa
open Go.RowKit Pk

theorem take_eq_succ {l1 l2 : List Int} {k : Nat} (h : l1.take k = l2.take k) (h1 : k < l1.length) (h2 : k < l2.length) (e : l1.getD k 0 = l2.getD k 0) : l1.take (k + 1) = l2.take (k + 1) := by
  rw [List.take_succ_eq_append_getElem h1, List.take_succ_eq_append_getElem h2, h]
  simp only [List.getD, List.getElem?_eq_getElem h1, List.getElem?_eq_getElem h2, Option.getD_some] at e
  rw [e]

set_option maxHeartbeats 1000000 in
theorem sameNumbers_any (B : Nat) (v1 v2 : Value) (l1 l2 : List Int) (w : World) (h1 : IsInts B w v1 l1) (h2 : IsInts B w v2 l2) (hl1 : l1.length ≤ 17592186044416) (_hl2 : l2.length ≤ 17592186044416) :
    Calls Try.prog 42 #[v1, v2] w fun e w' => e = .returned (.bool (decide (l1 = l2))) ∧ ∃ n, w' = w.drewN n := by
  obtain ⟨a1, c1, rfl, hc1⟩ := h1
  obtain ⟨a2, c2, rfl, hc2⟩ := h2
  have Hc1 : Hid (∀ j, j < l1.length → ∃ b off, a1 = some ⟨b, off, none⟩ ∧ b < B ∧ w.cell? ⟨b, off + j, none⟩ = some (.int .i64 (l1.getD j 0))) := hc1
  have Hc2 : Hid (∀ j, j < l2.length → ∃ b off, a2 = some ⟨b, off, none⟩ ∧ b < B ∧ w.cell? ⟨b, off + j, none⟩ = some (.int .i64 (l2.getD j 0))) := hc2
  clear hc1 hc2
  by_cases hll : l1.length = l2.length
  · have hne : ((l1.length : Int) != (l2.length : Int)) = false := by simp [hll]
    have Hll : Hid (l1.length = l2.length) := hll
    have hle : l2.length ≤ l1.length := by omega
    have hle' : l1.length ≤ l2.length := by omega
    clear hll
    go_enter Try.func42, Try.ntmps42
    go_wp2
    go_loopw [5] (fun i wr => ∃ k : Nat, k ≤ l1.length ∧ i = .int .i64 k ∧ l1.take k = l2.take k ∧ ∃ n, wr = w.drewN n) (fun i _ => l1.length - (intOf i).toNat)
    case atStart => exact ⟨0, Nat.zero_le _, rfl, by simp, 0, rfl⟩
    case round =>
      obtain ⟨k, hk, rfl, htk, n, rfl⟩ := hrel
      have Htk : Hid (l1.take k = l2.take k) := htk
      clear htk
      by_cases hlt : k < l1.length
      · obtain ⟨b1, o1, rfl, hb1, hx1⟩ := Hc1.out k hlt
        obtain ⟨b2, o2, rfl, hb2, hx2⟩ := Hc2.out k (by omega)
        obtain ⟨q1, hq1⟩ : ∃ q, l1.getD k 0 = q := ⟨_, rfl⟩
        obtain ⟨q2, hq2⟩ : ∃ q, l2.getD k 0 = q := ⟨_, rfl⟩
        rw [hq1] at hx1
        rw [hq2] at hx2
        have Hq1 : Hid (l1.getD k 0 = q1) := hq1
        have Hq2 : Hid (l2.getD k 0 = q2) := hq2
        clear hq1 hq2
        have hlt' : (k : Int) < l1.length := by omega
        have hlt2 : (k : Int) < l2.length := by omega
        by_cases hq : q1 = q2
        · have hqb : (q1 != q2) = false := by simp [hq]
          have Hq : Hid (q1 = q2) := hq
          clear hq
          go_wp2
          go_quiet (fail)
          go_wp2
          go_roundw
          case rel => exact ⟨k + 1, by omega, by go_num, take_eq_succ Htk.out hlt (by omega) (by rw [Hq1.out, Hq2.out, Hq.out]), _, rfl⟩
          case measure => simp [intOf]; omega
        · have hqb : (q1 != q2) = true := by simp [hq]
          have Hq : Hid (q1 ≠ q2) := hq
          clear hq
          go_wp2
          go_quiet (fail)
          go_wp2
          go_ret
          refine ⟨ret_bool (decide_eq_false ?_).symm, _, World.drewN_drewN _ _ _⟩
          intro e
          exact Hq.out (by rw [← Hq1.out, ← Hq2.out, e])
      · have hlt' : ¬ (k : Int) < l1.length := by omega
        go_wp2
        go_ret
        refine ⟨ret_bool (decide_eq_true ?_).symm, _, rfl⟩
        have h := Htk.out
        rwa [List.take_of_length_le (by omega), List.take_of_length_le (by omega)] at h
  · have hne : ((l1.length : Int) != (l2.length : Int)) = true := by simp; omega
    have Hll : Hid (l1.length ≠ l2.length) := hll
    clear hll
    go_enter Try.func42, Try.ntmps42
    go_wp2
    go_ret
    exact ⟨ret_bool (decide_eq_false (fun e => Hll.out (by rw [e]))).symm, 0, rfl⟩

end Go.Proofs.Ytdjhhnolcafkiaa
