/- The book looks: all lists hold what their owner wrote. -/
import Derived.Test.YtdjhhnolcafkiaaOwns
import Derived.Deep.LoopGhost
import Derived.Deep.QuietTactic
import Derived.BigQuiet
namespace Go.Proofs.Ytdjhhnolcafkiaa
open Go.RowKit
open Pk

theorem row_at {W : World} {base e n cap : Nat} {ao : Option Addr} {xs : List Value} (h : W.ownsRow base e 1 (.slice ao n cap) n xs) (i : Nat) (hi : i < n) : ∃ g, ao = some ⟨g, 0, none⟩ ∧ W.cell? ⟨g, i, none⟩ = xs[i]? := by
  have h' := h
  obtain ⟨_, h2 | ⟨g, cap', cur, e', _⟩⟩ := h
  · obtain ⟨_, h0⟩ := h2; omega
  · simp only [Value.slice.injEq] at e'
    obtain ⟨rfl, _, rfl⟩ := e'
    exact ⟨g, rfl, World.ownsRow.cellAt h' i (by omega)⟩

set_option maxRecDepth 20000 in
set_option maxHeartbeats 4000000 in
theorem looks_any (g : Nat) (free : Nat → Prop) (nv mv : Value) (NL : List Value) (ML : List Int) (nx : Int) (w : World) (hB : Bk w g free nv mv NL ML nx) (hN : NL.length ≤ 1000000000) :
    Calls Try.prog 13 #[.pointer (some ⟨g, 0, none⟩)] w fun e w' => e = .returned (.bool true) ∧ ∃ n, w' = w.drewN n := by
  obtain ⟨an, cn, rfl⟩ := row_shape hB.rn
  obtain ⟨am, cm, rfl⟩ := row_shape hB.rm
  have HB : Hid (Bk w g free (.slice an NL.length cn) (.slice am ML.length cm) NL ML nx) := hB
  have c0 := hB.c0
  have c2 := hB.c2
  have c3 := hB.c3
  have c4 := hB.c4
  have HLen : Hid (NL.length = ML.length) := hB.len
  obtain ⟨N, hNe⟩ : ∃ N, NL.length = N := ⟨_, rfl⟩
  have HNe : Hid (NL.length = N) := hNe
  have hM : (ML.length : Int) = (N : Int) := by rw [← hB.len, hNe]
  have hM' : ML.length = N := by rw [← hB.len, hNe]
  have HM : Hid (ML.length = N) := hM'
  rw [hNe] at c2 hN
  rw [hM'] at c3
  clear hB hNe hM hM'
  go_enter Try.func13, Try.ntmps13
  go_wp2
  go_loopg [3] 0 (fun gk s3 wr => gk = 0 ∧ s3 = .int .i64 0 ∧ ∃ n', wr = w.drewN n')
  case atStart => exact ⟨rfl, rfl, 0, rfl⟩
  case round =>
    obtain ⟨rfl, rfl, n0, rfl⟩ := hrel
    go_wp2
    go_loopg [5] N (fun gk s5 wr => ∃ i n', i ≤ N ∧ gk = N - i ∧ s5 = .int .i64 (i : Nat) ∧ wr = w.drewN n')
    case atStart => exact ⟨0, _, Nat.zero_le _, rfl, rfl, rfl⟩
    case round =>
      obtain ⟨i, n', hi, rfl, rfl, rfl⟩ := hrel
      by_cases hlt : i < N
      · have hlt' : (i : Int) < N := by omega
        obtain ⟨u, hu⟩ : ∃ u, NL[i]? = some u := ⟨_, List.getElem?_eq_getElem (by rw [HNe.out]; exact hlt)⟩
        obtain ⟨n, ao, cap, rfl, hn, hk⟩ := HB.out.ent i u hu
        have hrn := HB.out.rn
        rw [HNe.out] at hrn
        obtain ⟨gn, rfl, hcn⟩ := row_at hrn i hlt
        rw [hu] at hcn
        have hrm := HB.out.rm
        rw [HM.out] at hrm
        obtain ⟨gm, rfl, hcm⟩ := row_at hrm i hlt
        have hmi : (ML.map (Value.int .i64))[i]? = some (.int .i64 (ML.getD i 0)) := by
          rw [List.getElem?_map, List.getElem?_eq_getElem (by rw [HM.out]; exact hlt)]
          simp [List.getD, HM.out, hlt]
        rw [hmi] at hcm
        generalize ML.getD i 0 = q at *
        have Hk : Hid (∀ k, k < n → ∃ b, ao = some ⟨b, 0, none⟩ ∧ w.cell? ⟨b, k, none⟩ = some (.int .i64 q)) := fun k hkn => by
          obtain ⟨b, e, _, _, _, _, h5⟩ := hk k hkn
          rw [Nat.zero_add] at h5
          exact ⟨b, e, h5⟩
        clear hk hrn hrm hmi hu HLen HB
        go_wp2
        go_loopg [6] n (fun gj s6 wi => ∃ k n'', k ≤ n ∧ gj = n - k ∧ s6 = .int .i64 (k : Nat) ∧ wi = w.drewN n'')
        case atStart => exact ⟨0, _, Nat.zero_le _, rfl, rfl, rfl⟩
        case round =>
          obtain ⟨k, n'', hkn, rfl, rfl, rfl⟩ := hrel
          by_cases hkl : k < n
          · have hkl' : (k : Int) < n := by omega
            obtain ⟨b, rfl, hcb⟩ := Hk.out k hkl
            go_wp2
            go_quiet (fail)
            go_wp2
            go_roundg (n - (k + 1))
            case measure => omega
            case rel => exact ⟨k + 1, _, by omega, rfl, by go_num, rfl⟩
          · have hkl' : ¬ (k : Int) < n := by omega
            go_wp2
            go_roundg (N - (i + 1))
            case measure => omega
            case rel => exact ⟨i + 1, _, by omega, rfl, by go_num, rfl⟩
      · have hlt' : ¬ (i : Int) < N := by omega
        go_wp2
        go_loopg [7] 0 (fun gk s7 wr => gk = 0 ∧ s7 = .int .i64 0 ∧ ∃ n', wr = w.drewN n')
        case atStart => exact ⟨rfl, rfl, _, rfl⟩
        case round =>
          obtain ⟨rfl, rfl, n2, rfl⟩ := hrel
          go_wp2
          go_ret
          exact ⟨rfl, _, rfl⟩

end Go.Proofs.Ytdjhhnolcafkiaa
