/- Two packets of the same parts are the same. -/
import Derived.Test.YtdjhhnolcafkiaaWords
import Derived.Deep.QuietTactic
import Derived.BigQuiet
namespace Go.Proofs.Ytdjhhnolcafkiaa
open Go.RowKit Pk

set_option maxHeartbeats 2000000 in
theorem same_any (mk ex : Bool) (ty nu ti so pr pa : Int) (v1 v2 : Value) (cl : List Int) (en py : ByteArray) (w : World) (h1 : IsInts w.heap.size w v1 cl) (h2 : IsInts w.heap.size w v2 cl) (hl : cl.length ≤ 15) :
    Calls Try.prog 19 #[.agg #[.bool mk, .int .i64 ty, .int .i64 nu, .int .i64 ti, .int .i64 so, v1, .bool ex, .int .i64 pr, .string en, .string py, .int .i64 pa], .agg #[.bool mk, .int .i64 ty, .int .i64 nu, .int .i64 ti, .int .i64 so, v2, .bool ex, .int .i64 pr, .string en, .string py, .int .i64 pa]] w
      fun e w' => e = .returned (.bool true) ∧ Below w.heap.size w w' := by
  obtain ⟨a1, c1, rfl, hc1⟩ := h1
  obtain ⟨a2, c2, rfl, hc2⟩ := h2
  have Hc1 : Hid (∀ j, j < cl.length → ∃ b off, a1 = some ⟨b, off, none⟩ ∧ b < w.heap.size ∧ w.cell? ⟨b, off + j, none⟩ = some (.int .i64 (cl.getD j 0))) := hc1
  have Hc2 : Hid (∀ j, j < cl.length → ∃ b off, a2 = some ⟨b, off, none⟩ ∧ b < w.heap.size ∧ w.cell? ⟨b, off + j, none⟩ = some (.int .i64 (cl.getD j 0))) := hc2
  clear hc1 hc2
  go_enter Try.func19, Try.ntmps19
  go_wp2
  go_loopw [5] (fun i wr => ∃ k : Nat, k ≤ cl.length ∧ i = .int .i64 k ∧ (∀ b o, wr.cell? ⟨b, o, none⟩ = ((w.alloc (.cells #[.bool mk, .int .i64 ty, .int .i64 nu, .int .i64 ti, .int .i64 so, .slice a1 cl.length c1, .bool ex, .int .i64 pr, .string en, .string py, .int .i64 pa] 33)).alloc (.cells #[.bool mk, .int .i64 ty, .int .i64 nu, .int .i64 ti, .int .i64 so, .slice a2 cl.length c2, .bool ex, .int .i64 pr, .string en, .string py, .int .i64 pa] 33)).cell? ⟨b, o, none⟩) ∧ Below w.heap.size w wr) (fun i _ => cl.length - (intOf i).toNat)
  case atStart => exact ⟨0, Nat.zero_le _, rfl, fun _ _ => rfl, ((Below.refl _ _).alloc (Nat.le_refl _) _).alloc (by simp) _⟩
  case round =>
    obtain ⟨k, hk, rfl, hcw, hb⟩ := hrel
    by_cases hlt : k < cl.length
    · obtain ⟨b1, o1, rfl, hb1, hx1⟩ := Hc1.out k hlt
      obtain ⟨b2, o2, rfl, hb2, hx2⟩ := Hc2.out k hlt
      have hy1 : wr.cell? ⟨b1, o1 + k, none⟩ = some (.int .i64 (cl.getD k 0)) := by
        rw [hcw, World.cell?_alloc_lt _ _ _ (by simp; omega), World.cell?_alloc_lt _ _ _ (by simpa using hb1)]; exact hx1
      have hy2 : wr.cell? ⟨b2, o2 + k, none⟩ = some (.int .i64 (cl.getD k 0)) := by
        rw [hcw, World.cell?_alloc_lt _ _ _ (by simp; omega), World.cell?_alloc_lt _ _ _ (by simpa using hb2)]; exact hx2
      have hz1 : wr.cell? ⟨w.heap.size, 5, none⟩ = some (.slice (some ⟨b1, o1, none⟩) cl.length c1) := by rw [hcw]; go_simp
      have hz2 : wr.cell? ⟨w.heap.size + 1, 5, none⟩ = some (.slice (some ⟨b2, o2, none⟩) cl.length c2) := by rw [hcw]; go_simp
      have HW : Hid (∀ b o, wr.cell? ⟨b, o, none⟩ = ((w.alloc (.cells #[.bool mk, .int .i64 ty, .int .i64 nu, .int .i64 ti, .int .i64 so, .slice (some ⟨b1, o1, none⟩) cl.length c1, .bool ex, .int .i64 pr, .string en, .string py, .int .i64 pa] 33)).alloc (.cells #[.bool mk, .int .i64 ty, .int .i64 nu, .int .i64 ti, .int .i64 so, .slice (some ⟨b2, o2, none⟩) cl.length c2, .bool ex, .int .i64 pr, .string en, .string py, .int .i64 pa] 33)).cell? ⟨b, o, none⟩) := hcw
      clear hcw hx1 hx2
      generalize cl.getD k 0 = q at *
      have hlt' : (k : Int) < cl.length := by omega
      go_wp2
      go_quiet (fail)
      go_wp2
      go_roundw
      case rel => exact ⟨k + 1, by omega, by go_num, fun b o => (by rw [← HW.out b o]; simp [go_sem]), below_drewN hb _⟩
      case measure => simp [intOf]; omega
    · have hlt' : ¬ (k : Int) < cl.length := by omega
      have hb' := hb
      clear Hc1 Hc2
      go_wp2
      go_ret
      exact ⟨rfl, hb'⟩

end Go.Proofs.Ytdjhhnolcafkiaa
