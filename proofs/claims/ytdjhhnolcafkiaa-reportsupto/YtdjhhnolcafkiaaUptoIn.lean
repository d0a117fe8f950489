/- Arguments that came in, of a bulk that is bounded: plain facts. -/
import Derived.Test.YtdjhhnolcafkiaaRows
import Derived.Test.YtdjhhnolcafkiaaNum
import Derived.ProofKit
import Derived.OpenShut
import Derived.ShutString
import Derived.ChangeOld
import Derived.Below
import Derived.JoinedCond
import Derived.Deep.Slices
namespace Go.Proofs.Ytdjhhnolcafkiaa
open Go.ChangeShapes Go.WideShapes Go.ChangeAt Go.RowKit Go.Deep
namespace Up

theorem own : ownKnob Try.prog.godebug = none := by kernel_rfl
theorem laidOut : laidOutB Try.prog = true := by kernel_rfl

/-! what the bound gives -/
theorem bulk_pos {H : Type} (d : DataW H) : 0 < Rows.uptoBulk d := by
  cases d with
  | lit l => cases l <;> simp [Rows.uptoBulk]
  | _ => simp [Rows.uptoBulk]
theorem bulk_len {H : Type} : ∀ l : List (DataW H), l.length ≤ Rows.uptoBulkAll l
  | [] => Nat.zero_le _
  | d :: r => by have h1 := bulk_len r; have h2 := bulk_pos d; rw [Rows.uptoBulkAll, List.length_cons]; omega
theorem bulk_mem {H : Type} {d : DataW H} : ∀ {l : List (DataW H)}, d ∈ l → Rows.uptoBulk d ≤ Rows.uptoBulkAll l
  | x :: r, h => by
    rw [Rows.uptoBulkAll]
    rcases List.mem_cons.1 h with rfl | h
    · omega
    · have := bulk_mem h; omega
theorem bulk_row {H : Type} (a b : List (DataW H)) : Rows.uptoBulkAll a + 1 ≤ Rows.uptoBulk (.slice a b) := by rw [Rows.uptoBulk]; omega
theorem bulk_agg {H : Type} (a : List (DataW H)) : Rows.uptoBulkAll a ≤ Rows.uptoBulk (.agg a) := by rw [Rows.uptoBulk]; omega

section
variable {H : Type} {enc : TypeId × Value → H} {W : World} {base : Nat} {spare : Nat → Bool} {held : Bool}

theorem text_in {fuel : Nat} {c : Value} {x : DataW H × List MemPlace} (h : DataW.trod enc Try.prog W base spare held fuel 9 [c] = some x) : ∃ s : ByteArray, c = .string s ∧ s.size + 1 ≤ Rows.uptoBulk x.1 := by
  obtain ⟨s, e, hx, _⟩ := DataW.trod_string Try.underlying9 h
  simp only [List.cons.injEq, and_true] at e
  refine ⟨s, e, ?_⟩
  rw [hx, Rows.uptoBulk, Lib.size_eq]
  exact Nat.le_refl _

/-- the texts that came in -/
theorem texts_in {fuel : Nat} {c : Value} {x : DataW H × List MemPlace} (h : DataW.trod enc Try.prog W base spare held fuel 22 [c] = some x) (hk : Rows.uptoBulk x.1 ≤ 1048576) :
    ∃ ta tn tc, c = .slice ta tn tc ∧ tn ≤ 1048576 ∧ ∀ i, i < tn → ∃ b off s, ta = some ⟨b, off, none⟩ ∧ b < W.heap.size ∧ W.cell? ⟨b, off + i, none⟩ = some (.string s) ∧ s.size ≤ 1048576 := by
  rcases open_slice1 Try.underlying22 (by kernel_rfl) h with ⟨hcs, _⟩ | ⟨a, len, cap, m, n, V, D, Pl, hcs, _, hl, hm, hmm, rfl, hx⟩
  · simp only [List.cons.injEq, and_true] at hcs
    exact ⟨none, 0, 0, hcs, Nat.zero_le _, fun i hi => absurd hi (by omega)⟩
  · simp only [List.cons.injEq, and_true] at hcs
    have hlm : len ≤ m := by rw [hmm]; split <;> omega
    have hb1 := bulk_row ((List.range len).map D) ((List.range (m - len)).map fun j => D (len + j))
    have hb2 := bulk_len ((List.range len).map D)
    rw [List.length_map, List.length_range] at hb2
    simp only at hk
    refine ⟨some a, len, cap, hcs, by omega, fun i hi => ?_⟩
    obtain ⟨h1, h2⟩ := hx i (by omega)
    obtain ⟨s, hs, hsb⟩ := text_in h2
    have hb3 := bulk_mem (d := D i) (l := (List.range len).map D) (List.mem_map.2 ⟨i, List.mem_range.2 hi, rfl⟩)
    obtain ⟨b, off, spot⟩ := a
    have hspot : spot = none := by simpa [Addr.add] using World.cell?_spot (hx 0 (by omega)).1
    subst hspot
    rw [add_plain, hs] at h1
    exact ⟨b, off, s, rfl, Pk.lt_of_cell h1, h1, by simp only at hsb; omega⟩

/-- a list of numbers that came in -/
theorem ints_in {fuel : Nat} {c : Value} {x : DataW H × List MemPlace} (h : DataW.trod enc Try.prog W base spare held fuel 27 [c] = some x) :
    ∃ l : List Int, Pk.IsInts W.heap.size W c l ∧ l.length ≤ Rows.uptoBulk x.1 := by
  rcases open_ints Try.underlying27 Try.underlying3 (by kernel_rfl) h with ⟨hcs, _⟩ | ⟨a, len, cap, zs, hcs, _, hl, hm, hz, _, hcell, hwz⟩
  · simp only [List.cons.injEq, and_true] at hcs
    subst hcs
    exact ⟨[], ⟨none, 0, rfl, fun j hj => absurd hj (by simp)⟩, Nat.zero_le _⟩
  · simp only [List.cons.injEq, and_true] at hcs
    subst hcs
    have hlz : len ≤ zs.length := by split at hz <;> omega
    have hlen : (zs.take len).length = len := by rw [List.length_take]; omega
    have hbk : len ≤ Rows.uptoBulk x.1 := by
      rcases open_slice1 Try.underlying27 (by kernel_rfl) h with ⟨hcs, _⟩ | ⟨a', len', cap', m, n, V, D, Pl, hcs, _, hl', hm', hmm, rfl, hx⟩
      · simp at hcs
      · simp only [List.cons.injEq, and_true, Value.slice.injEq] at hcs
        have hb1 := bulk_row ((List.range len').map D) ((List.range (m - len')).map fun j => D (len' + j))
        have hb2 := bulk_len ((List.range len').map D)
        rw [List.length_map, List.length_range] at hb2
        have := hcs.2.1
        simp only
        omega
    refine ⟨zs.take len, ⟨some a, cap, by rw [hlen], fun j hj => ?_⟩, by rw [hlen]; exact hbk⟩
    rw [hlen] at hj
    obtain ⟨b, off, rfl, hcells⟩ := ints_at hcell (by omega)
    have h1 := hcells j (by omega)
    refine ⟨b, off, rfl, Pk.lt_of_cell h1, ?_⟩
    rw [h1]
    simp [List.getD, hj]

end

end Up
end Go.Proofs.Ytdjhhnolcafkiaa
