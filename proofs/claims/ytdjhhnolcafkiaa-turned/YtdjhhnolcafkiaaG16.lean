/- Arguments that came in, of a bulk that is bounded: plain facts. -/
import Derived.Test.YtdjhhnolcafkiaaRows
import Derived.Test.YtdjhhnolcafkiaaG01
import Derived.ProofKit
import Derived.OpenShut
import Derived.ShutString
import Derived.ChangeOld
import Derived.Below
import Derived.JoinedCond
import Derived.Deep.Slices
import Derived.Test.YtdjhhnolcafkiaaG15
import Derived.Test.YtdjhhnolcafkiaaG14
namespace Go.Proofs.Ytdjhhnolcafkiaa
open Go.ChangeShapes Go.WideShapes Go.ChangeAt Go.RowKit Go.Deep
namespace Up

theorem own : ownKnob Try.prog.godebug = none := by kernel_rfl
theorem laidOut : laidOutB Try.prog = true := by kernel_rfl

/-! what the bound gives -/
theorem bulk_pos {H : Type} (d : DataW H) : 0 < Rows.uptoBulk d := by
  cases d with
  | lit l => cases l <;> simp [Rows.uptoBulk]
  | _ => simp [Rows.uptoBulk]
theorem bulk_len {H : Type} : ∀ l : List (DataW H), l.length ≤ Rows.uptoBulkAll l
  | [] => Nat.zero_le _
  | d :: r => by have h1 := bulk_len r; have h2 := bulk_pos d; rw [Rows.uptoBulkAll, List.length_cons]; omega
theorem bulk_mem {H : Type} {d : DataW H} : ∀ {l : List (DataW H)}, d ∈ l → Rows.uptoBulk d ≤ Rows.uptoBulkAll l
  | x :: r, h => by
    rw [Rows.uptoBulkAll]
    rcases List.mem_cons.1 h with rfl | h
    · omega
    · have := bulk_mem h; omega
theorem bulk_row {H : Type} (a b : List (DataW H)) : Rows.uptoBulkAll a + 1 ≤ Rows.uptoBulk (.slice a b) := by rw [Rows.uptoBulk]; omega
theorem bulk_agg {H : Type} (a : List (DataW H)) : Rows.uptoBulkAll a ≤ Rows.uptoBulk (.agg a) := by rw [Rows.uptoBulk]; omega

section
variable {H : Type} {enc : TypeId × Value → H} {W : World} {base : Nat} {spare : Nat → Bool} {held : Bool}

theorem text_in {fuel : Nat} {c : Value} {x : DataW H × List MemPlace} (h : DataW.trod enc Try.prog W base spare held fuel 9 [c] = some x) : ∃ s : ByteArray, c = .string s ∧ s.size + 1 ≤ Rows.uptoBulk x.1 := by
  obtain ⟨s, e, hx, _⟩ := DataW.trod_string Try.underlying9 h
  simp only [List.cons.injEq, and_true] at e
  refine ⟨s, e, ?_⟩
  rw [hx, Rows.uptoBulk, Lib.size_eq]
  exact Nat.le_refl _

/-- the texts that came in -/
theorem texts_in {fuel : Nat} {c : Value} {x : DataW H × List MemPlace} (h : DataW.trod enc Try.prog W base spare held fuel 22 [c] = some x) (hk : Rows.uptoBulk x.1 ≤ 1048576) :
    ∃ ta tn tc, c = .slice ta tn tc ∧ tn ≤ 1048576 ∧ ∀ i, i < tn → ∃ b off s, ta = some ⟨b, off, none⟩ ∧ b < W.heap.size ∧ W.cell? ⟨b, off + i, none⟩ = some (.string s) ∧ s.size ≤ 1048576 := by
  rcases open_slice1 Try.underlying22 (by kernel_rfl) h with ⟨hcs, _⟩ | ⟨a, len, cap, m, n, V, D, Pl, hcs, _, hl, hm, hmm, rfl, hx⟩
  · simp only [List.cons.injEq, and_true] at hcs
    exact ⟨none, 0, 0, hcs, Nat.zero_le _, fun i hi => absurd hi (by omega)⟩
  · simp only [List.cons.injEq, and_true] at hcs
    have hlm : len ≤ m := by rw [hmm]; split <;> omega
    have hb1 := bulk_row ((List.range len).map D) ((List.range (m - len)).map fun j => D (len + j))
    have hb2 := bulk_len ((List.range len).map D)
    rw [List.length_map, List.length_range] at hb2
    simp only at hk
    refine ⟨some a, len, cap, hcs, by omega, fun i hi => ?_⟩
    obtain ⟨h1, h2⟩ := hx i (by omega)
    obtain ⟨s, hs, hsb⟩ := text_in h2
    have hb3 := bulk_mem (d := D i) (l := (List.range len).map D) (List.mem_map.2 ⟨i, List.mem_range.2 hi, rfl⟩)
    obtain ⟨b, off, spot⟩ := a
    have hspot : spot = none := by simpa [Addr.add] using World.cell?_spot (hx 0 (by omega)).1
    subst hspot
    rw [add_plain, hs] at h1
    exact ⟨b, off, s, rfl, Pk.lt_of_cell h1, h1, by simp only at hsb; omega⟩

/-- a list of numbers that came in -/
theorem ints_in {fuel : Nat} {c : Value} {x : DataW H × List MemPlace} (h : DataW.trod enc Try.prog W base spare held fuel 27 [c] = some x) :
    ∃ l : List Int, Pk.IsInts W.heap.size W c l ∧ l.length ≤ Rows.uptoBulk x.1 := by
  rcases open_ints Try.underlying27 Try.underlying3 (by kernel_rfl) h with ⟨hcs, _⟩ | ⟨a, len, cap, zs, hcs, _, hl, hm, hz, _, hcell, hwz⟩
  · simp only [List.cons.injEq, and_true] at hcs
    subst hcs
    exact ⟨[], ⟨none, 0, rfl, fun j hj => absurd hj (by simp)⟩, Nat.zero_le _⟩
  · simp only [List.cons.injEq, and_true] at hcs
    subst hcs
    have hlz : len ≤ zs.length := by split at hz <;> omega
    have hlen : (zs.take len).length = len := by rw [List.length_take]; omega
    have hbk : len ≤ Rows.uptoBulk x.1 := by
      rcases open_slice1 Try.underlying27 (by kernel_rfl) h with ⟨hcs, _⟩ | ⟨a', len', cap', m, n, V, D, Pl, hcs, _, hl', hm', hmm, rfl, hx⟩
      · simp at hcs
      · simp only [List.cons.injEq, and_true, Value.slice.injEq] at hcs
        have hb1 := bulk_row ((List.range len').map D) ((List.range (m - len')).map fun j => D (len' + j))
        have hb2 := bulk_len ((List.range len').map D)
        rw [List.length_map, List.length_range] at hb2
        have := hcs.2.1
        simp only
        omega
    refine ⟨zs.take len, ⟨some a, cap, by rw [hlen], fun j hj => ?_⟩, by rw [hlen]; exact hbk⟩
    rw [hlen] at hj
    obtain ⟨b, off, rfl, hcells⟩ := ints_at hcell (by omega)
    have h1 := hcells j (by omega)
    refine ⟨b, off, rfl, Pk.lt_of_cell h1, ?_⟩
    rw [h1]
    simp [List.getD, hj]

end

end Up
end Go.Proofs.Ytdjhhnolcafkiaa

/- Steps that came in. -/
namespace Go.Proofs.Ytdjhhnolcafkiaa
open Go.ChangeShapes Go.WideShapes Go.ChangeAt Go.RowKit Go.Deep
namespace Stp
open Pk Oc

theorem list_of {α : Type} (P : Nat → α → Prop) : ∀ n : Nat, (∀ i, i < n → ∃ a, P i a) → ∃ l : List α, l.length = n ∧ ∀ i a, l[i]? = some a → P i a
  | 0, _ => ⟨[], rfl, fun i a h => by simp at h⟩
  | n + 1, h => by
    obtain ⟨l, h1, h2⟩ := list_of P n (fun i hi => h i (by omega))
    obtain ⟨a, ha⟩ := h n (by omega)
    refine ⟨l ++ [a], by simp [h1], fun i b hb => ?_⟩
    by_cases hi : i < n
    · rw [List.getElem?_append_left (by omega)] at hb
      exact h2 i b hb
    · rw [List.getElem?_append_right (by omega)] at hb
      have hlt : i - l.length < 1 := by
        have := (List.getElem?_eq_some_iff.1 hb).1
        simpa using this
      obtain rfl : i = n := by omega
      rw [h1, Nat.sub_self] at hb
      simp at hb
      rw [← hb]
      exact ha

section
variable {H : Type} {enc : TypeId × Value → H} {W : World} {base : Nat} {spare : Nat → Bool} {held : Bool}

theorem list3 {cs : List Value} (h : cs.length = 3) : ∃ c0 c1 c2, cs = [c0, c1, c2] := by
  match cs, h with
  | [c0, c1, c2], _ => exact ⟨c0, c1, c2, rfl⟩

set_option maxRecDepth 100000 in
theorem step_in {fuel : Nat} {cs : List Value} {x : DataW H × List MemPlace} (h : DataW.trod enc Try.prog W base spare held fuel 73 cs = some x) :
    ∃ r : StepR, cs = [.int .i64 r.what, .int .i64 r.n, .string r.py] ∧ StOk r := by
  have hC : Try.prog.cellsOf 73 = 3 := by kernel_rfl
  obtain ⟨xs, n, _, rfl, hcl, hxl, hx⟩ := DataW.trod_struct Try.underlying73 h
  obtain ⟨c0, c1, c2, rfl⟩ := list3 (hcl.trans hC)
  have k3 : Try.prog.cellsOf 3 = 1 := by kernel_rfl
  have k27 : Try.prog.cellsOf 9 = 1 := by kernel_rfl
  have hlen : xs.length = 3 := hxl
  have at_ : ∀ i, i < 3 → ∃ y, xs[i]? = some y := fun i hi => ⟨xs[i], List.getElem?_eq_getElem (by omega)⟩
  obtain ⟨z0, g0⟩ := at_ 0 (by omega); obtain ⟨z1, g1⟩ := at_ 1 (by omega); obtain ⟨z2, g2⟩ := at_ 2 (by omega)
  have e0 := (hx 0 _ rfl).trans g0; have e1 := (hx 1 _ rfl).trans g1; have e2 := (hx 2 _ rfl).trans g2
  simp [k3, k27] at e0 e1 e2
  obtain ⟨se, m0, _, w0⟩ := DataW.trod_int Try.underlying3 e0
  obtain ⟨so, m1, _, w1⟩ := DataW.trod_int Try.underlying3 e1
  obtain ⟨py, m2, _, w2⟩ := DataW.trod_string Try.underlying9 e2
  simp only [List.cons.injEq, and_true] at m0 m1 m2
  subst m0 m1 m2
  exact ⟨⟨se, so, py⟩, rfl, wf64 w0, wf64 w1, w2⟩

/-- the steps that came in -/
theorem steps_in {fuel : Nat} {c : Value} {x : DataW H × List MemPlace} (h : DataW.trod enc Try.prog W base spare held fuel 69 [c] = some x) :
    ∃ l : List StepR, IsSteps W.heap.size W c l ∧ l.length ≤ maxLen ∧ ∀ r ∈ l, StOk r := by
  have hC : Try.prog.cellsOf 73 = 3 := by kernel_rfl
  rcases open_slice Try.underlying69 h with ⟨hcs, _⟩ | ⟨a, len, cap, m, n, D, Pl, hcs, _, hl, hm, hmm, rfl, hx⟩
  · simp only [List.cons.injEq, and_true] at hcs
    subst hcs
    exact ⟨[], ⟨none, 0, rfl, fun j r hj => by simp at hj⟩, Nat.zero_le _, by simp⟩
  · simp only [List.cons.injEq, and_true] at hcs
    subst hcs
    have hlm : len ≤ m := by rw [hmm]; split <;> omega
    have key : ∀ i, i < len → ∃ r : StepR, StOk r ∧ ∃ b off, a = ⟨b, off, none⟩ ∧ b < W.heap.size ∧ W.cell? ⟨b, off + i * 3, none⟩ = some (.int .i64 r.what) ∧ W.cell? ⟨b, off + i * 3 + 1, none⟩ = some (.int .i64 r.n) ∧ W.cell? ⟨b, off + i * 3 + 2, none⟩ = some (.string r.py) := fun i hi => by
      obtain ⟨cs', h1, h2⟩ := hx i (by omega)
      rw [hC] at h1
      obtain ⟨r, rfl, r1⟩ := step_in h2
      obtain ⟨_, _, hcell⟩ := World.cells?_some h1
      obtain ⟨b, off, spot⟩ := a
      have hspot : spot = none := by
        obtain ⟨cs0, h10, _⟩ := hx 0 (by omega)
        obtain ⟨_, hl0, hc0⟩ := World.cells?_some h10
        have h := (hc0 0 (by omega)).trans (List.getElem?_eq_getElem (by omega))
        simpa [Addr.add] using World.cell?_spot h
      subst hspot
      rw [add_plain] at hcell
      have at_ : ∀ k v, k < 3 → [Value.int .i64 r.what, .int .i64 r.n, .string r.py][k]? = some v → W.cell? ⟨b, off + i * 3 + k, none⟩ = some v := fun k v hk hv => by
        have := hcell k hk
        rw [add_plain] at this
        exact this.trans hv
      have c0 := at_ 0 _ (by omega) rfl
      exact ⟨r, r1, b, off, rfl, Pk.lt_of_cell c0, c0, at_ 1 _ (by omega) rfl, at_ 2 _ (by omega) rfl⟩
    obtain ⟨l, l1, l2⟩ := list_of _ len key
    refine ⟨l, ⟨some a, cap, by rw [l1], fun j r hj => ?_⟩, by omega, fun r hr => ?_⟩
    · obtain ⟨-, b, off, rfl, h1, h2⟩ := l2 j r hj
      exact ⟨b, off, rfl, h1, h2⟩
    · obtain ⟨j, hj⟩ := List.mem_iff_getElem?.1 hr
      exact (l2 j r hj).1
end
end Stp
end Go.Proofs.Ytdjhhnolcafkiaa
