/- menderlaw.sameTexts: two lists of the same texts. -/
import Derived.Test.YtdjhhnolcafkiaaGreatG15
import Derived.Test.YtdjhhnolcafkiaaGreatG01
import Derived.Deep.LoopGhost
import Derived.Deep.QuietTactic
import Derived.BigQuiet
import Derived.Test.YtdjhhnolcafkiaaGreatG03
import Derived.Test.YtdjhhnolcafkiaaGreatG02
import Derived.Test.YtdjhhnolcafkiaaGreatG09
import Derived.Test.YtdjhhnolcafkiaaGreatG10
import Derived.Test.YtdjhhnolcafkiaaGreatG05
import Derived.Test.YtdjhhnolcafkiaaGreatG06
import Derived.Laws.StructEq
import Derived.Deep.WholeRow
namespace Go.Proofs.YtdjhhnolcafkiaaGreat
open Go.RowKit
open Pk

set_option maxHeartbeats 1000000 in
theorem sameTexts_any (B1 B2 : Nat) (v1 v2 : Value) (L : List ByteArray) (w : World) (h1 : w.ownsRow B1 9 1 v1 L.length (L.map Value.string)) (h2 : w.ownsRow B2 9 1 v2 L.length (L.map Value.string)) (hl : L.length ≤ 1000000000) :
    Calls Tryz.prog 76 #[v1, v2] w fun e w' => e = .returned (.bool true) ∧ ∃ n, w' = w.drewN n := by
  obtain ⟨a1, c1, rfl⟩ := rowA_shape h1
  obtain ⟨a2, c2, rfl⟩ := rowA_shape h2
  have H1 : Hid (w.ownsRow B1 9 1 (.slice a1 L.length c1) L.length (L.map Value.string)) := h1
  have H2 : Hid (w.ownsRow B2 9 1 (.slice a2 L.length c2) L.length (L.map Value.string)) := h2
  clear h1 h2
  go_enter Tryz.func76, Tryz.ntmps76
  go_wp2
  go_loopw [5] (fun s5 wr => ∃ k : Nat, k ≤ L.length ∧ s5 = .int .i64 k ∧ ∃ n, wr = w.drewN n) (fun s5 _ => L.length - (intOf s5).toNat)
  case atStart => exact ⟨0, Nat.zero_le _, rfl, 0, rfl⟩
  case round =>
    obtain ⟨k, hk, rfl, n, rfl⟩ := hrel
    by_cases hlt : k < L.length
    · have hlt' : (k : Int) < L.length := by omega
      obtain ⟨g1, rfl⟩ := rowA_some H1.out (by omega)
      obtain ⟨g2, rfl⟩ := rowA_some H2.out (by omega)
      have x1 : w.cell? ⟨g1, k, none⟩ = some (.string L[k]) := by
        have h := H1.out.cellAt k (by omega)
        rw [List.getElem?_map, List.getElem?_eq_getElem hlt] at h
        exact h
      have x2 : w.cell? ⟨g2, k, none⟩ = some (.string L[k]) := by
        have h := H2.out.cellAt k (by omega)
        rw [List.getElem?_map, List.getElem?_eq_getElem hlt] at h
        exact h
      generalize L[k] = t at *
      go_wp2
      go_big_quiet (fail)
      go_wp2
      go_roundw
      case rel => exact ⟨k + 1, by omega, by go_num, _, rfl⟩
      case measure => simp [intOf]; omega
    · have hlt' : ¬ (k : Int) < L.length := by omega
      go_wp2
      go_ret
      exact ⟨rfl, _, rfl⟩

end Go.Proofs.YtdjhhnolcafkiaaGreat

/- The book looks: all lists hold what their owner wrote. -/
namespace Go.Proofs.YtdjhhnolcafkiaaGreat
open Go.RowKit
open Pk

theorem row_at {W : World} {base e n cap : Nat} {ao : Option Addr} {xs : List Value} (h : W.ownsRow base e 1 (.slice ao n cap) n xs) (i : Nat) (hi : i < n) : ∃ g, ao = some ⟨g, 0, none⟩ ∧ W.cell? ⟨g, i, none⟩ = xs[i]? := by
  have h' := h
  obtain ⟨_, h2 | ⟨g, cap', cur, e', _⟩⟩ := h
  · obtain ⟨_, h0⟩ := h2; omega
  · simp only [Value.slice.injEq] at e'
    obtain ⟨rfl, _, rfl⟩ := e'
    exact ⟨g, rfl, World.ownsRow.cellAt h' i (by omega)⟩

end Go.Proofs.YtdjhhnolcafkiaaGreat

/- The book looks: all lists hold what their owner wrote (texts, numbers, askings). -/
namespace Go.Proofs.YtdjhhnolcafkiaaGreat
open Go.RowKit
open Pk

namespace Pk
theorem Chg.drewN {T : Nat → Prop} {a b : World} (h : Chg T a b) (n : Nat) : Chg T a (b.drewN n) := h.trans (Chg.ofBelow (T := T) (below_drewN (Below.refl _ _) n)) (fun _ _ e => e)
/-- one element of a list that the book holds -/
theorem Pr.at {W : World} {g : Nat} {ρ : Nat → Nat} {ra rm : Nat} {te tm : TypeId} {cells : Value → List Value} {al ak : Option Addr} {cl ck : Nat} {L M : List Value} (h : Pr W g ρ ra rm te tm cells (.slice al L.length cl) (.slice ak M.length ck) L M) (i : Nat) (hi : i < L.length) :
    ∃ gl gk n ao cap m, al = some ⟨gl, 0, none⟩ ∧ ak = some ⟨gk, 0, none⟩ ∧ M[i]? = some m ∧ W.cell? ⟨gl, i, none⟩ = some (.slice ao n cap) ∧ W.cell? ⟨gk, i, none⟩ = some m ∧ n ≤ 10000 ∧
      ∀ k, k < n → ∃ b, ao = some ⟨b, 0, none⟩ ∧ ∀ j, j < (cells m).length → W.cell? ⟨b, k * (cells m).length + j, none⟩ = (cells m)[j]? := by
  have hm : i < M.length := by rw [← h.len]; exact hi
  obtain ⟨gl, rfl, c1⟩ := row_at h.rl i hi
  obtain ⟨gk, rfl, c2⟩ := row_at h.rk i hm
  obtain ⟨n, ao, cap, e, hn, hk⟩ := h.ent i L[i] M[i] (List.getElem?_eq_getElem hi) (List.getElem?_eq_getElem hm)
  refine ⟨gl, gk, n, ao, cap, M[i], rfl, rfl, List.getElem?_eq_getElem hm, ?_, c2.trans (List.getElem?_eq_getElem hm), hn, fun k hkn => ?_⟩
  · rw [c1, List.getElem?_eq_getElem hi, e]
  · obtain ⟨b, e2, _, _, h3⟩ := hk k hkn
    exact ⟨b, e2, h3⟩
end Pk

set_option maxRecDepth 20000 in
set_option maxHeartbeats 8000000 in
theorem looksN_any (g : Nat) (ρ : Nat → Nat) (tv tk nv nk av ak : Value) (TL NL AL : List Value) (TS : List ByteArray) (NS AS : List Int) (nx : Int) (w : World)
    (hB : BkN w g ρ tv tk nv nk av ak TL (TS.map Value.string) NL (NS.map (Value.int .i64)) AL (AS.map (Value.int .i64)) nx) (hT : TL.length ≤ 1000000000) (hN : NL.length ≤ 1000000000) (hA : AL.length ≤ 1000000000) :
    Calls Tryz.prog 9 #[.pointer (some ⟨g, 0, none⟩)] w fun e w' => e = .returned (.bool true) ∧ Chg (fun _ => False) w w' := by
  obtain ⟨at1, ct1, rfl⟩ := row_shape hB.tp.rl
  obtain ⟨at2, ct2, rfl⟩ := row_shape hB.tp.rk
  obtain ⟨an1, cn1, rfl⟩ := row_shape hB.np.rl
  obtain ⟨an2, cn2, rfl⟩ := row_shape hB.np.rk
  obtain ⟨aa1, ca1, rfl⟩ := row_shape hB.ap.rl
  obtain ⟨aa2, ca2, rfl⟩ := row_shape hB.ap.rk
  have HTP : Hid (Pr w g ρ 2 3 32 9 (fun m => [m]) (.slice at1 TL.length ct1) (.slice at2 (TS.map Value.string).length ct2) TL (TS.map Value.string)) := hB.tp
  have HNP : Hid (Pr w g ρ 4 5 34 3 (fun m => [m]) (.slice an1 NL.length cn1) (.slice an2 (NS.map (Value.int .i64)).length cn2) NL (NS.map (Value.int .i64))) := hB.np
  have HAP : Hid (Pr w g ρ 6 7 77 3 (fun m => [m, m, .slice none 0 0]) (.slice aa1 AL.length ca1) (.slice aa2 (AS.map (Value.int .i64)).length ca2) AL (AS.map (Value.int .i64))) := hB.ap
  have lt := hB.tp.len
  have ln := hB.np.len
  have la := hB.ap.len
  have c0 := hB.c0
  have c1 := hB.c1
  have c2 := hB.c2
  have c3 := hB.c3
  have c4 := hB.c4
  have c5 := hB.c5
  rw [← lt] at c1
  rw [← ln] at c3
  rw [← la] at c5
  have K0 : Hid (∀ W, Chg (fun _ => False) w W → W.cell? ⟨g, 0, none⟩ = some (.slice at1 TL.length ct1) ∧ W.cell? ⟨g, 1, none⟩ = some (.slice at2 TL.length ct2) ∧ W.cell? ⟨g, 2, none⟩ = some (.slice an1 NL.length cn1) ∧ W.cell? ⟨g, 3, none⟩ = some (.slice an2 NL.length cn2) ∧ W.cell? ⟨g, 4, none⟩ = some (.slice aa1 AL.length ca1) ∧ W.cell? ⟨g, 5, none⟩ = some (.slice aa2 AL.length ca2)) :=
    fun W hc => ⟨hc.cell c0 (fun e => e), hc.cell c1 (fun e => e), hc.cell c2 (fun e => e), hc.cell c3 (fun e => e), hc.cell c4 (fun e => e), hc.cell c5 (fun e => e)⟩
  clear hB lt ln la c0 c1 c2 c3 c4 c5
  obtain ⟨TN, hTN⟩ : ∃ n, TL.length = n := ⟨_, rfl⟩
  obtain ⟨NN, hNN⟩ : ∃ n, NL.length = n := ⟨_, rfl⟩
  obtain ⟨AN, hAN⟩ : ∃ n, AL.length = n := ⟨_, rfl⟩
  rw [hTN, hNN, hAN] at K0
  rw [hTN] at hT
  rw [hNN] at hN
  rw [hAN] at hA
  have HTN : Hid (TL.length = TN) := hTN
  have HNN : Hid (NL.length = NN) := hNN
  have HAN : Hid (AL.length = AN) := hAN
  clear hTN hNN hAN
  obtain ⟨z0, _, _, _, _, _⟩ := K0.out w (Chg.refl _ _)
  go_enter Tryz.func9, Tryz.ntmps9
  go_wp2
  go_loopg [3] TN (fun gk s3 wr => ∃ i : Nat, i ≤ TN ∧ gk = TN - i ∧ s3 = .int .i64 i ∧ Chg (fun _ => False) w wr)
  case atStart => exact ⟨0, Nat.zero_le _, rfl, rfl, Chg.refl _ _⟩
  case round =>
    obtain ⟨i, hi, rfl, rfl, hc⟩ := hrel
    have HC : Hid (Chg (fun _ => False) w wr) := hc
    obtain ⟨z0, z1, z2, z3, z4, z5⟩ := K0.out wr hc
    by_cases hlt : i < TN
    · have hlt' : (i : Int) < TN := by omega
      obtain ⟨gl, gk, n, ao, cap, m, rfl, rfl, hm, y1, y2, hn, hk⟩ := HTP.out.at i (by rw [HTN.out]; exact hlt)
      obtain ⟨s, rfl⟩ : ∃ s, m = .string s := by
        rw [List.getElem?_map] at hm
        cases h : TS[i]? with
        | none => rw [h] at hm; cases hm
        | some s => rw [h] at hm; exact ⟨s, (Option.some.inj hm).symm⟩
      have x1 := hc.cell y1 (fun e => e)
      have Hy1 : Hid (w.cell? ⟨gl, i, none⟩ = some (.slice ao n cap)) := y1
      have Hy2 : Hid (w.cell? ⟨gk, i, none⟩ = some (.string s)) := y2
      have Hk : Hid (∀ k, k < n → ∃ b, ao = some ⟨b, 0, none⟩ ∧ w.cell? ⟨b, k, none⟩ = some (.string s)) := fun k hkn => by
        obtain ⟨b, e, h⟩ := hk k hkn
        have := h 0 (by simp)
        simp at this
        exact ⟨b, e, this⟩
      clear hk hm y1 y2 hc
      go_wp2
      go_loopg [4] n (fun gj s4 wi => ∃ k : Nat, k ≤ n ∧ gj = n - k ∧ s4 = .int .i64 k ∧ Chg (fun _ => False) w wi)
      case atStart => exact ⟨0, Nat.zero_le _, rfl, rfl, HC.out⟩
      case round =>
        clear z0 z1 z2 z3 z4 z5 x1
        obtain ⟨k, hkn, rfl, rfl, hc⟩ := hrel
        have HC2 : Hid (Chg (fun _ => False) w _) := hc
        obtain ⟨z0, z1, z2, z3, z4, z5⟩ := K0.out _ hc
        have x1 := hc.cell Hy1.out (fun e => e)
        have x2 := hc.cell Hy2.out (fun e => e)
        by_cases hkl : k < n
        · have hkl' : (k : Int) < n := by omega
          obtain ⟨b, rfl, hb⟩ := Hk.out k hkl
          have x3 := hc.cell hb (fun e => e)
          clear hb hc
          go_wp2
          go_quiet (fail)
          go_wp2
          go_roundg (n - (k + 1))
          case measure => omega
          case rel => exact ⟨k + 1, by omega, rfl, by go_num, HC2.out.drewN _⟩
        · have hkl' : ¬ (k : Int) < n := by omega
          clear hc
          go_wp2
          go_roundg (TN - (i + 1))
          case measure => omega
          case rel => exact ⟨i + 1, by omega, rfl, by go_num, HC2.out⟩
    · have hlt' : ¬ (i : Int) < TN := by omega
      clear hc
      go_wp2
      clear z0 z1 z2 z3 z4 z5
      go_loopg [5] NN (fun gk s5 wr => ∃ i : Nat, i ≤ NN ∧ gk = NN - i ∧ s5 = .int .i64 i ∧ Chg (fun _ => False) w wr)
      case atStart => exact ⟨0, Nat.zero_le _, rfl, rfl, HC.out⟩
      case round =>
        clear HC
        obtain ⟨i, hi, rfl, rfl, hc⟩ := hrel
        have HC : Hid (Chg (fun _ => False) w _) := hc
        obtain ⟨z0, z1, z2, z3, z4, z5⟩ := K0.out _ hc
        by_cases hlt : i < NN
        · have hlt' : (i : Int) < NN := by omega
          obtain ⟨gl, gk, n, ao, cap, m, rfl, rfl, hm, y1, y2, hn, hk⟩ := HNP.out.at i (by rw [HNN.out]; exact hlt)
          obtain ⟨q, rfl⟩ : ∃ q, m = .int .i64 q := by
            rw [List.getElem?_map] at hm
            cases h : NS[i]? with
            | none => rw [h] at hm; cases hm
            | some s => rw [h] at hm; exact ⟨s, (Option.some.inj hm).symm⟩
          have x1 := hc.cell y1 (fun e => e)
          have Hy1 : Hid (w.cell? ⟨gl, i, none⟩ = some (.slice ao n cap)) := y1
          have Hy2 : Hid (w.cell? ⟨gk, i, none⟩ = some (.int .i64 q)) := y2
          have Hk : Hid (∀ k, k < n → ∃ b, ao = some ⟨b, 0, none⟩ ∧ w.cell? ⟨b, k, none⟩ = some (.int .i64 q)) := fun k hkn => by
            obtain ⟨b, e, h⟩ := hk k hkn
            have := h 0 (by simp)
            simp at this
            exact ⟨b, e, this⟩
          clear hk hm y1 y2 hc
          go_wp2
          go_loopg [6] n (fun gj s6 wi => ∃ k : Nat, k ≤ n ∧ gj = n - k ∧ s6 = .int .i64 k ∧ Chg (fun _ => False) w wi)
          case atStart => exact ⟨0, Nat.zero_le _, rfl, rfl, HC.out⟩
          case round =>
            clear z0 z1 z2 z3 z4 z5 x1
            obtain ⟨k, hkn, rfl, rfl, hc⟩ := hrel
            have HC2 : Hid (Chg (fun _ => False) w _) := hc
            obtain ⟨z0, z1, z2, z3, z4, z5⟩ := K0.out _ hc
            have x1 := hc.cell Hy1.out (fun e => e)
            have x2 := hc.cell Hy2.out (fun e => e)
            by_cases hkl : k < n
            · have hkl' : (k : Int) < n := by omega
              obtain ⟨b, rfl, hb⟩ := Hk.out k hkl
              have x3 := hc.cell hb (fun e => e)
              clear hb hc
              go_wp2
              go_quiet (fail)
              go_wp2
              go_roundg (n - (k + 1))
              case measure => omega
              case rel => exact ⟨k + 1, by omega, rfl, by go_num, HC2.out.drewN _⟩
            · have hkl' : ¬ (k : Int) < n := by omega
              clear hc
              go_wp2
              go_roundg (NN - (i + 1))
              case measure => omega
              case rel => exact ⟨i + 1, by omega, rfl, by go_num, HC2.out⟩
        · have hlt' : ¬ (i : Int) < NN := by omega
          clear hc
          go_wp2
          clear z0 z1 z2 z3 z4 z5
          go_loopg [7] AN (fun gk s7 wr => ∃ i : Nat, i ≤ AN ∧ gk = AN - i ∧ s7 = .int .i64 i ∧ Chg (fun _ => False) w wr)
          case atStart => exact ⟨0, Nat.zero_le _, rfl, rfl, HC.out⟩
          case round =>
            clear HC
            obtain ⟨i, hi, rfl, rfl, hc⟩ := hrel
            have HC : Hid (Chg (fun _ => False) w _) := hc
            obtain ⟨z0, z1, z2, z3, z4, z5⟩ := K0.out _ hc
            by_cases hlt : i < AN
            · have hlt' : (i : Int) < AN := by omega
              obtain ⟨gl, gk, n, ao, cap, m, rfl, rfl, hm, y1, y2, hn, hk⟩ := HAP.out.at i (by rw [HAN.out]; exact hlt)
              obtain ⟨q, rfl⟩ : ∃ q, m = .int .i64 q := by
                rw [List.getElem?_map] at hm
                cases h : AS[i]? with
                | none => rw [h] at hm; cases hm
                | some s => rw [h] at hm; exact ⟨s, (Option.some.inj hm).symm⟩
              have x1 := hc.cell y1 (fun e => e)
              have Hy1 : Hid (w.cell? ⟨gl, i, none⟩ = some (.slice ao n cap)) := y1
              have Hy2 : Hid (w.cell? ⟨gk, i, none⟩ = some (.int .i64 q)) := y2
              have Hk : Hid (∀ k, k < n → ∃ b, ao = some ⟨b, 0, none⟩ ∧ w.cell? ⟨b, k * 3, none⟩ = some (.int .i64 q) ∧ w.cell? ⟨b, k * 3 + 1, none⟩ = some (.int .i64 q) ∧ w.cell? ⟨b, k * 3 + 2, none⟩ = some (.slice none 0 0)) := fun k hkn => by
                obtain ⟨b, e, h⟩ := hk k hkn
                exact ⟨b, e, h 0 (by simp), h 1 (by simp), h 2 (by simp)⟩
              clear hk hm y1 y2 hc
              go_wp2
              go_loopg [8] n (fun gj s8 wi => ∃ k : Nat, k ≤ n ∧ gj = n - k ∧ s8 = .int .i64 k ∧ Chg (fun _ => False) w wi)
              case atStart => exact ⟨0, Nat.zero_le _, rfl, rfl, HC.out⟩
              case round =>
                clear z0 z1 z2 z3 z4 z5 x1
                obtain ⟨k, hkn, rfl, rfl, hc⟩ := hrel
                have HC2 : Hid (Chg (fun _ => False) w _) := hc
                obtain ⟨z0, z1, z2, z3, z4, z5⟩ := K0.out _ hc
                have x1 := hc.cell Hy1.out (fun e => e)
                have x2 := hc.cell Hy2.out (fun e => e)
                by_cases hkl : k < n
                · have hkl' : (k : Int) < n := by omega
                  obtain ⟨b, rfl, hb0, hb1, hb2⟩ := Hk.out k hkl
                  have x3 := hc.cell hb0 (fun e => e)
                  have x4 := hc.cell hb1 (fun e => e)
                  have x5 := hc.cell hb2 (fun e => e)
                  have v5 : ∀ o, (World.alloc _ o).cell? ⟨g, 5, none⟩ = _ := fun o => (World.cell?_alloc_lt _ _ _ (lt_of_cell z5)).trans z5
                  have v2 : ∀ o, (World.alloc _ o).cell? ⟨gk, i, none⟩ = _ := fun o => (World.cell?_alloc_lt _ _ _ (lt_of_cell x2)).trans x2
                  clear hb0 hb1 hb2 hc
                  go_wp2
                  go_quiet (fail)
                  go_wp2
                  go_roundg (n - (k + 1))
                  case measure => omega
                  case rel => exact ⟨k + 1, by omega, rfl, by go_num, (HC2.out.alloc _).drewN _⟩
                · have hkl' : ¬ (k : Int) < n := by omega
                  clear hc
                  go_wp2
                  go_roundg (AN - (i + 1))
                  case measure => omega
                  case rel => exact ⟨i + 1, by omega, rfl, by go_num, HC2.out⟩
            · have hlt' : ¬ (i : Int) < AN := by omega
              clear hc
              go_wp2
              go_ret
              exact ⟨rfl, HC.out⟩

end Go.Proofs.YtdjhhnolcafkiaaGreat

/- menderlaw.copied, num: a list like another, in new memory; an error as a number. -/
namespace Go.Proofs.YtdjhhnolcafkiaaGreat
open Go.RowKit Pk

set_option maxHeartbeats 400000 in
theorem errNum_any (a : Int) (w : World) :
    Calls Tryz.prog 14 #[.int .i64 a] w fun e w' => e = .returned (.int .i64 a) ∧ w' = w := by
  go_enter Tryz.func14, Tryz.ntmps14
  go_wp2
  go_ret
  exact ⟨rfl, rfl⟩

end Go.Proofs.YtdjhhnolcafkiaaGreat

/- The calls of a pair's menders, and of the book. -/
namespace Go.Proofs.YtdjhhnolcafkiaaGreat
open Go.RowKit Pk
namespace Rl
section
variable {w : World} {F : Nat → Nat → Nat} {K : Nat} {pb mb rb : Nat → Nat} {M : Nat → Md} {R : Nat → Rm} {g n q k : Nat}
theorem st_addS (h : Sta w F K pb mb rb M R g n) (hk : k < K) (hr : Rel q (M k) (R k)) (so : Int) :
    Calls Tryz.prog 15 #[.pointer (some ⟨mb k, 0, none⟩), .int .i64 so] w fun e w' => e = .returned (.int .i64 (addSM (M k) so).2) ∧ ∃ F', Sta w' F' K pb mb rb (upd M k (addSM (M k) so).1) R g n ∧ SMv w F w' F' := by
  obtain ⟨sv, wv, SB, WB, a⟩ := h.md k hk
  refine (addSender_any _ _ _ _ _ _ _ so w a hr.w8 hr.cfg.1.1).mono ?_
  rintro e w' ⟨rfl, ρ', sv', wv', SB', WB', m1, m2, m3⟩
  obtain ⟨F', s1, s2, -⟩ := h.turnM hk m1 m2 m3
  exact ⟨rfl, F', s1, s2⟩
theorem st_refAddS (h : Sta w F K pb mb rb M R g n) (hk : k < K) (so : Int) :
    Calls Tryz.prog 16 #[.pointer (some ⟨rb k, 0, none⟩), .int .i64 so] w fun e w' => e = .returned (.int .i64 (rAddS (R k) so).2) ∧ ∃ F', Sta w' F' K pb mb rb M (upd R k (rAddS (R k) so).1) g n ∧ SMv w F w' F' := by
  obtain ⟨sv, wv, a⟩ := h.rd k hk
  refine (refAddSender_any _ _ _ _ _ so w a).mono ?_
  rintro e w' ⟨rfl, ρ', sv', m1, m2⟩
  obtain ⟨F', s1, s2, -⟩ := h.turnR hk m1 m2
  exact ⟨rfl, F', s1, s2⟩
theorem st_addW (h : Sta w F K pb mb rb M R g n) (hk : k < K) (hr : Rel q (M k) (R k)) (hq : q ≤ 10000000) (of_ : Int) (p : Plan) :
    Calls Tryz.prog 17 #[.pointer (some ⟨mb k, 0, none⟩), .int .i64 of_, .agg #[.int .i64 p.source, .int .i64 p.second, .int .i64 p.ty, .int .i64 p.secondTy, .int .i64 p.first, .int .i64 p.secondFirst]] w fun e w' => e = .returned (.tuple #[.int .i64 (addWM (M k) of_ p).2.1, .int .i64 (addWM (M k) of_ p).2.2]) ∧ ∃ F', Sta w' F' K pb mb rb (upd M k (addWM (M k) of_ p).1) R g n ∧ SMv w F w' F' := by
  obtain ⟨sv, wv, SB, WB, a⟩ := h.md k hk
  have hb := hr.lb
  refine (addWant_any _ _ _ _ _ _ _ of_ p w a hr.w8 hr.ids hb.1 (by omega)).mono ?_
  rintro e w' ⟨rfl, ρ', sv', wv', SB', WB', m1, m2, m3⟩
  obtain ⟨F', s1, s2, -⟩ := h.turnM hk m1 m2 m3
  exact ⟨rfl, F', s1, s2⟩
theorem st_refAddW {M0 : Md} (h : Sta w F K pb mb rb M R g n) (hk : k < K) (hr : Rel q M0 (R k)) (hq : q ≤ 10000000) (of_ : Int) (p : Plan) :
    Calls Tryz.prog 18 #[.pointer (some ⟨rb k, 0, none⟩), .int .i64 of_, .agg #[.int .i64 p.source, .int .i64 p.second, .int .i64 p.ty, .int .i64 p.secondTy, .int .i64 p.first, .int .i64 p.secondFirst]] w fun e w' => e = .returned (.tuple #[.int .i64 (rAddW (R k) of_ p).2.1, .int .i64 (rAddW (R k) of_ p).2.2]) ∧ ∃ F', Sta w' F' K pb mb rb M (upd R k (rAddW (R k) of_ p).1) g n ∧ SMv w F w' F' := by
  obtain ⟨sv, wv, a⟩ := h.rd k hk
  have hb := hr.lb
  have hl := hr.last
  refine (refAddWant_any _ _ _ _ _ of_ p w a (by omega) (fun y hy => ?_)).mono ?_
  · obtain ⟨i, x, h1, h2⟩ := mem_pick hr.wl.symm hy
    have h3 := hr.ids x (List.mem_of_getElem? h2)
    have h4 := (hr.wa i x y h2 h1).id
    omega
  rintro e w' ⟨rfl, ρ', sv', wv', m1, m2⟩
  obtain ⟨F', s1, s2, -⟩ := h.turnR hk m1 m2
  exact ⟨rfl, F', s1, s2⟩
theorem st_drop (h : Sta w F K pb mb rb M R g n) (hk : k < K) (hr : Rel q (M k) (R k)) (id : Int) :
    Calls Tryz.prog 19 #[.pointer (some ⟨mb k, 0, none⟩), .int .i64 id] w fun e w' => e = .returned (.int .i64 (dropM (M k) id).2) ∧ ∃ F', Sta w' F' K pb mb rb (upd M k (dropM (M k) id).1) R g n ∧ SMv w F w' F' := by
  obtain ⟨sv, wv, SB, WB, a⟩ := h.md k hk
  refine (dropWant_any _ _ _ _ _ _ _ id w a hr.w8).mono ?_
  rintro e w' ⟨rfl, ρ', sv', wv', SB', WB', m1, m2, m3⟩
  obtain ⟨F', s1, s2, -⟩ := h.turnM hk m1 m2 m3
  exact ⟨rfl, F', s1, s2⟩
theorem st_refDrop (h : Sta w F K pb mb rb M R g n) (hk : k < K) (id : Int) :
    Calls Tryz.prog 20 #[.pointer (some ⟨rb k, 0, none⟩), .int .i64 id] w fun e w' => e = .returned (.int .i64 (rDrop (R k) id).2) ∧ ∃ F', Sta w' F' K pb mb rb M (upd R k (rDrop (R k) id).1) g n ∧ SMv w F w' F' := by
  obtain ⟨sv, wv, a⟩ := h.rd k hk
  refine (refDropWant_any _ _ _ _ _ id w a).mono ?_
  rintro e w' ⟨rfl, ρ', wv', m1, m2⟩
  obtain ⟨F', s1, s2, -⟩ := h.turnR hk m1 m2
  exact ⟨rfl, F', s1, s2⟩
theorem st_packet (h : Sta w F K pb mb rb M R g n) (hk : k < K) (hr : Rel q (M k) (R k)) (hq : q ≤ 10000000) (t : ByteArray) (ht : t.size ≤ maxLen) :
    Calls Tryz.prog 46 #[.pointer (some ⟨mb k, 0, none⟩), .string t] w fun e w' => ∃ cv tv F', e = .returned (.tuple #[tv, .int .i64 (packetM (M k) t cv).2.2]) ∧ Sta w' F' K pb mb rb (upd M k (packetM (M k) t cv).1) R g n ∧ SMv w F w' F' ∧
      w'.ownsRow w.heap.size 9 1 tv (packetM (M k) t cv).2.1.length ((packetM (M k) t cv).2.1.map Value.string) ∧ ∀ b, tv.ownBlock = some b → ∀ i, F' i b = 0 := by
  obtain ⟨sv, wv, SB, WB, a⟩ := h.md k hk
  refine (packet_any _ _ _ _ _ _ _ t w a (hr.mok hq) ht).mono ?_
  rintro e w' ⟨cv, tv, rfl, ρ', sv', wv', SB', WB', m1, ⟨m2, m3⟩, m4, m5⟩
  obtain ⟨F', s1, s2, s3⟩ := h.turnM hk m1 m2 m3
  exact ⟨cv, tv, F', rfl, s1, s2, m4, fun b hb => s3 b (fun i => h.hi i b (m4.lt b hb).1) (m4.lt b hb).1 (m5 b hb)⟩
theorem Rel.refOk {M0 : Md} {R0 : Rm} (hr : Rel q M0 R0) (hq : q ≤ 2000000) : (∀ s ∈ R0.sds, (-1 ≤ s.newest ∧ s.newest ≤ 10000000000000) ∧ (∀ x ∈ s.gaps, 0 ≤ x.n ∧ x.n ≤ 10000000000000) ∧ s.gaps.length ≤ 1000) ∧ (∀ c ∈ [R0.s.passed, R0.s.late, R0.s.doubled, R0.s.wrong, R0.s.unknown, R0.s.givenUp], 0 ≤ c ∧ c ≤ 1000000000000000) ∧ (∀ x ∈ R0.wns, x.all.length ≤ 2000000 ∧ (0 ≤ x.pl.first ∧ x.pl.first ≤ 65535) ∧ -65535 ≤ x.shift ∧ x.shift ≤ 65535) := by
  have hc := hr.cfg
  refine ⟨fun s hs => ?_, fun c hc => ?_, fun x hx => ?_⟩
  · obtain ⟨i, t, h1, h2⟩ := mem_pick hr.sl.symm hs
    have r := hr.sa i t s h2 h1
    have r1 := r.hi
    have r2 := r.len (by omega)
    exact ⟨⟨r.lo, by omega⟩, r.gpos (by omega) (by omega), by omega⟩
  · have h1 := hr.cnt
    rw [hr.s] at h1
    have := h1 c (by
      simp only [List.mem_cons, List.not_mem_nil, or_false] at hc ⊢
      omega)
    omega
  · obtain ⟨i, y, h1, h2⟩ := mem_pick hr.wl.symm hx
    have r := hr.wa i y x h2 h1
    exact ⟨by have := r.al; omega, r.fb, r.sb⟩
theorem st_refPacket {M0 : Md} (h : Sta w F K pb mb rb M R g n) (hk : k < K) (hr : Rel q M0 (R k)) (hq : q ≤ 2000000) (t : ByteArray) (ht : t.size ≤ maxLen) :
    Calls Tryz.prog 47 #[.pointer (some ⟨rb k, 0, none⟩), .string t] w fun e w' => ∃ tv R' out er F', e = .returned (.tuple #[tv, .int .i64 er]) ∧ RPk (R k) t M0.c.window.toNat R' out er ∧ Sta w' F' K pb mb rb M (upd R k R') g n ∧ SMv w F w' F' ∧
      w'.ownsRow w.heap.size 9 1 tv out.length (out.map Value.string) := by
  obtain ⟨sv, wv, a⟩ := h.rd k hk
  have hc := hr.cfg
  have e1 := hr.c
  obtain ⟨b1, b2, b3⟩ := Rel.refOk hr hq
  refine (refPacket_any _ _ _ _ _ t M0.c.window.toNat w a (by rw [← e1]; omega) (by omega) ht b1 b2 b3).mono ?_
  rintro e w' ⟨tv, R', out, er, rfl, hp, ρ', m1, m2, m3, -⟩
  obtain ⟨F', s1, s2, -⟩ := h.turnR hk m1 m2
  exact ⟨tv, R', out, er, F', rfl, hp, s1, s2, m3⟩
theorem st_missing (h : Sta w F K pb mb rb M R g n) (hk : k < K) (hr : Rel q (M k) (R k)) (so : Int) :
    Calls Tryz.prog 25 #[.pointer (some ⟨mb k, 0, none⟩), .int .i64 so] w fun e w' => Below w.heap.size w w' ∧
      ((sndPos (M k) so = none ∧ e = .returned (.tuple #[.slice none 0 0, .int .i64 4])) ∨ ∃ i s v, sndPos (M k) so = some i ∧ (M k).sds[i]? = some s ∧ e = .returned (.tuple #[v, .int .i64 0]) ∧ OwnInts w' w.heap.size v (names s.gaps)) := by
  obtain ⟨sv, wv, SB, WB, a⟩ := h.md k hk
  have hc := hr.cfg
  refine missing_any _ _ _ _ _ _ _ so w a (fun s hs => ?_)
  obtain ⟨i, t, h1, h2⟩ := mem_pick hr.sl hs
  have r := hr.sa i s t h1 h2
  exact ⟨r.in16, by have := r.lenM (by omega); omega⟩
theorem st_refMissing {M0 : Md} (h : Sta w F K pb mb rb M R g n) (hk : k < K) (hr : Rel q M0 (R k)) (so : Int) :
    Calls Tryz.prog 26 #[.pointer (some ⟨rb k, 0, none⟩), .int .i64 so] w fun e w' => Below w.heap.size w w' ∧
      ((rsPos (R k) so = none ∧ e = .returned (.tuple #[.slice none 0 0, .int .i64 4])) ∨ ∃ i s v, rsPos (R k) so = some i ∧ (R k).sds[i]? = some s ∧ e = .returned (.tuple #[v, .int .i64 0]) ∧ OwnInts w' w.heap.size v (rNums s.gaps)) := by
  obtain ⟨sv, wv, a⟩ := h.rd k hk
  have hc := hr.cfg
  refine refMissing_any _ _ _ _ _ so w a (fun s hs => ?_)
  obtain ⟨i, t, h1, h2⟩ := mem_pick hr.sl.symm hs
  have := (hr.sa i t s h2 h1).len (by omega)
  omega
/-- the book has taken the list v -/
def Took (w : World) (F : Nat → Nat → Nat) (v : Value) (W : World) (F' : Nat → Nat → Nat) : Prop := (∀ b, b < w.heap.size → v.ownBlock ≠ some b → (∀ i, F i b = 0) → ∀ i, F' i b = 0) ∧ Chg (fun b => (∃ i, F i b ≠ 0) ∨ v.ownBlock = some b) w W
theorem SMv.took {w0 W : World} {F0 F' : Nat → Nat → Nat} {v : Value} (h : SMv w0 F0 w F) (k : Took w F v W F') (hv : ∀ b, v.ownBlock = some b → w0.heap.size ≤ b) : SMv w0 F0 W F' :=
  ⟨fun b hb e => k.1 b (Nat.lt_of_lt_of_le hb h.2.size) (fun e' => by have := hv b e'; omega) (h.1 b hb e), h.2.trans k.2 (fun b hb e => Classical.byContradiction fun e0 => by
    rcases e with ⟨i, hi⟩ | e
    · exact hi (h.1 b hb (fun j => Classical.byContradiction fun ej => e0 ⟨j, ej⟩) i)
    · have := hv b e; omega)⟩
theorem st_ownsN (h : Sta w F K pb mb rb M R g n) (hn : n ≤ 10000000) (v : Value) (l : List Int) (hown : OwnInts w (g + 1) v l) (hl : l.length ≤ 6400) (hf : ∀ b, v.ownBlock = some b → (∀ j, F j b = 0) ∧ ∀ k, k < K → b ≠ pb k) :
    Calls Tryz.prog 28 #[.pointer (some ⟨g, 0, none⟩), v] w fun e w' => e = .returned (.tuple #[]) ∧ ∃ F', Sta w' F' K pb mb rb M R g (n + 1) ∧ Took w F v w' F' := by
  obtain ⟨tv, tk, nv, nk, av, ak, TL, NL, AL, TS, NS, AS, nx, b1, b2, b3, b4, b5, b6⟩ := h.bk
  refine (ownsN_any g _ tv tk nv nk av ak TL _ NL _ AL _ nx v l w b1 hown (fun b hb => (hf b hb).1 0) hl (by omega) b5 (by omega)).mono ?_
  rintro e w' ⟨rfl, ρ', nv', nk', NL', z1, z2, z3, z4, z5⟩
  have hc : Chg (fun b => F 0 b ≠ 0 ∨ v.ownBlock = some b) w w' := z5.mono (fun b _ e => by
    rcases e with e | e | e | e
    · rw [e, (b1.rg g).2 rfl]; exact .inl (by decide)
    · rw [b1.np.fl b e]; exact .inl (by decide)
    · rw [b1.np.fm b e]; exact .inl (by decide)
    · exact .inr e)
  refine ⟨rfl, upd F 0 ρ', h.turnB v ⟨tv, tk, nv', nk', av, ak, TL, NL ++ NL', AL, TS, NS ++ [-(nx + 1), -(nx + 1), -(nx + 1), -(nx + 1)], AS, nx + 1, by rw [List.map_append]; exact z2, by omega, by rw [List.length_append, z1]; omega, by omega, by omega, by omega⟩ z2.hi hf z4 hc, fun b hb e1 e2 i => ?_, hc.mono (fun b _ e => ?_)⟩
  · unfold upd
    split
    · exact z4 b hb e1 (e2 0)
    · exact e2 i
  · rcases e with e | e
    · exact .inl ⟨0, e⟩
    · exact .inr e
theorem st_ownsT (h : Sta w F K pb mb rb M R g n) (hn : n ≤ 10000000) (v : Value) (l : List ByteArray) (hown : w.ownsRow (g + 1) 9 1 v l.length (l.map Value.string)) (hl : l.length ≤ 6400) (hf : ∀ b, v.ownBlock = some b → (∀ j, F j b = 0) ∧ ∀ k, k < K → b ≠ pb k) :
    Calls Tryz.prog 77 #[.pointer (some ⟨g, 0, none⟩), v] w fun e w' => e = .returned (.tuple #[]) ∧ ∃ F', Sta w' F' K pb mb rb M R g (n + 1) ∧ Took w F v w' F' := by
  obtain ⟨tv, tk, nv, nk, av, ak, TL, NL, AL, TS, NS, AS, nx, b1, b2, b3, b4, b5, b6⟩ := h.bk
  refine (ownsT_any g _ tv tk nv nk av ak TL _ NL _ AL _ nx v l w b1 hown (fun b hb => (hf b hb).1 0) hl (by omega) b5 (by omega)).mono ?_
  rintro e w' ⟨rfl, ρ', tv', tk', TL', m, z1, z2, z3, z4, z5⟩
  have hc : Chg (fun b => F 0 b ≠ 0 ∨ v.ownBlock = some b) w w' := z5.mono (fun b _ e => by
    rcases e with e | e | e | e
    · rw [e, (b1.rg g).2 rfl]; exact .inl (by decide)
    · rw [b1.tp.fl b e]; exact .inl (by decide)
    · rw [b1.tp.fm b e]; exact .inl (by decide)
    · exact .inr e)
  refine ⟨rfl, upd F 0 ρ', h.turnB v ⟨tv', tk', nv, nk, av, ak, TL ++ TL', NL, AL, TS ++ [m, m, m, m], NS, AS, nx + 1, by rw [List.map_append]; exact z2, by rw [List.length_append, z1]; omega, by omega, by omega, by omega, by omega⟩ z2.hi hf z4 hc, fun b hb e1 e2 i => ?_, hc.mono (fun b _ e => ?_)⟩
  · unfold upd
    split
    · exact z4 b hb e1 (e2 0)
    · exact e2 i
  · rcases e with e | e
    · exact .inl ⟨0, e⟩
    · exact .inr e
theorem st_looks (h : Sta w F K pb mb rb M R g n) (hn : n ≤ 10000000) :
    Calls Tryz.prog 9 #[.pointer (some ⟨g, 0, none⟩)] w fun e w' => e = .returned (.bool true) ∧ Sta w' F K pb mb rb M R g n ∧ SMv w F w' F := by
  obtain ⟨tv, tk, nv, nk, av, ak, TL, NL, AL, TS, NS, AS, nx, b1, b2, b3, b4, b5, b6⟩ := h.bk
  refine (looksN_any g _ tv tk nv nk av ak TL NL AL TS NS AS nx w b1 (by omega) (by omega) (by omega)).mono ?_
  rintro e w' ⟨rfl, hc⟩
  exact ⟨rfl, h.chg hc (fun _ e => e.elim), fun _ _ e => e, hc.mono (fun _ _ e => e.elim)⟩
theorem st_look (h : Sta w F K pb mb rb M R g n) (hk : k < K) :
    Calls Tryz.prog 11 #[.pointer (some ⟨mb k, 0, none⟩)] w fun e w' => e = .returned (.agg (sttA (M k).s)) ∧ Below w.heap.size w w' := by
  obtain ⟨sv, wv, SB, WB, a⟩ := h.md k hk
  exact look_any _ _ _ _ _ _ _ w a
end
end Rl
end Go.Proofs.YtdjhhnolcafkiaaGreat

/- texts, missing, begun. -/
namespace Go.Proofs.YtdjhhnolcafkiaaGreat
open Go.RowKit Pk
namespace Rl
theorem Took.before {w w1 W : World} {F F' : Nat → Nat → Nat} {v : Value} (hb : Below w.heap.size w w1) (h : Took w1 F v W F') : Took w F v W F' :=
  ⟨fun b hl => h.1 b (Nat.lt_of_lt_of_le hl hb.size), (Chg.ofBelow hb).trans h.2 (fun _ _ e => e)⟩
section
variable {w : World} {F : Nat → Nat → Nat} {K : Nat} {pb mb rb : Nat → Nat} {M : Nat → Md} {R : Nat → Rm} {g n q k : Nat}
theorem Sta.glt (h : Sta w F K pb mb rb M R g n) : g < w.heap.size := by
  obtain ⟨tv, tk, nv, nk, av, ak, TL, NL, AL, TS, NS, AS, nx, b1, _⟩ := h.bk
  exact b1.lt
/-- what is new is nobody's -/
theorem Sta.free (h : Sta w F K pb mb rb M R g n) {b : Nat} (hb : w.heap.size ≤ b) : (∀ j, F j b = 0) ∧ ∀ k, k < K → b ≠ pb k :=
  ⟨fun j => h.hi j b hb, fun k hk e => by have := lt_of_cell (h.pc k hk).1; rw [← e] at this; simp only at this; omega⟩
def missM (M : Md) (so : Int) : List Int × Int := match sndPos M so with
  | none => ([], 4)
  | some i => match M.sds[i]? with
    | none => ([], 4)
    | some s => (names s.gaps, 0)
def missR (R : Rm) (so : Int) : List Int × Int := match rsPos R so with
  | none => ([], 4)
  | some i => match R.sds[i]? with
    | none => ([], 4)
    | some s => (rNums s.gaps, 0)
theorem Rel.miss {M0 : Md} {R0 : Rm} (h : Rel q M0 R0) (so : Int) : missM M0 so = missR R0 so ∧ (missM M0 so).1.length ≤ 200 := by
  unfold missM missR
  have hc := h.cfg
  rw [h.spos]
  cases hp : rsPos R0 so with
  | none => exact ⟨rfl, Nat.zero_le _⟩
  | some i =>
    simp only
    cases hs : M0.sds[i]? with
    | none =>
      have : R0.sds[i]? = none := by rw [List.getElem?_eq_none_iff] at hs ⊢; rw [← h.sl]; exact hs
      rw [this]
      exact ⟨rfl, Nat.zero_le _⟩
    | some s =>
      obtain ⟨t, ht⟩ := pick h.sl hs
      have r := h.sa i s t hs ht
      rw [ht]
      refine ⟨?_, ?_⟩
      · show (names s.gaps, (0 : Int)) = (rNums t.gaps, 0)
        rw [show names s.gaps = rNums t.gaps from r.names]
      · show (names s.gaps).length ≤ 200
        unfold names
        rw [List.length_map]
        exact r.lenM (by omega)
theorem st_missM (h : Sta w F K pb mb rb M R g n) (hk : k < K) (hr : Rel q (M k) (R k)) (so : Int) :
    Calls Tryz.prog 25 #[.pointer (some ⟨mb k, 0, none⟩), .int .i64 so] w fun e w' => Below w.heap.size w w' ∧ ∃ v, e = .returned (.tuple #[v, .int .i64 (missM (M k) so).2]) ∧ OwnInts w' w.heap.size v (missM (M k) so).1 := by
  refine (st_missing h hk hr so).mono ?_
  rintro e w' ⟨hb, ⟨hp, rfl⟩ | ⟨i, s, v, hp, hs, rfl, ho⟩⟩
  · unfold missM
    rw [hp]
    exact ⟨hb, _, rfl, World.ownsRow_nil _ _ _ _⟩
  · unfold missM
    rw [hp]
    simp only
    rw [hs]
    exact ⟨hb, v, rfl, ho⟩
theorem st_missR {M0 : Md} (h : Sta w F K pb mb rb M R g n) (hk : k < K) (hr : Rel q M0 (R k)) (so : Int) :
    Calls Tryz.prog 26 #[.pointer (some ⟨rb k, 0, none⟩), .int .i64 so] w fun e w' => Below w.heap.size w w' ∧ ∃ v, e = .returned (.tuple #[v, .int .i64 (missR (R k) so).2]) ∧ OwnInts w' w.heap.size v (missR (R k) so).1 := by
  refine (st_refMissing h hk hr so).mono ?_
  rintro e w' ⟨hb, ⟨hp, rfl⟩ | ⟨i, s, v, hp, hs, rfl, ho⟩⟩
  · unfold missR
    rw [hp]
    exact ⟨hb, _, rfl, World.ownsRow_nil _ _ _ _⟩
  · unfold missR
    rw [hp]
    simp only
    rw [hs]
    exact ⟨hb, v, rfl, ho⟩
end
end Rl
open Rl

set_option maxRecDepth 20000 in
set_option maxHeartbeats 4000000 in
theorem texts_any {w : World} {F : Nat → Nat → Nat} {K : Nat} {pb mb rb : Nat → Nat} {M : Nat → Md} {R : Nat → Rm} {g n : Nat} (h : Sta w F K pb mb rb M R g n) (hn : n ≤ 10000000) (lv mv : Value) (L : List ByteArray) (er : Int) (B2 : Nat) (h1 : w.ownsRow (g + 1) 9 1 lv L.length (L.map Value.string)) (h2 : w.ownsRow B2 9 1 mv L.length (L.map Value.string)) (hl : L.length ≤ 6400) (hf : ∀ b, lv.ownBlock = some b → (∀ j, F j b = 0) ∧ ∀ k, k < K → b ≠ pb k) :
    Calls Tryz.prog 48 #[.pointer (some ⟨g, 0, none⟩), lv, .int .i64 er, mv, .int .i64 er] w fun e w' => e = .returned (.bool true) ∧ ∃ F', Sta w' F' K pb mb rb M R g (n + 1) ∧ Took w F lv w' F' := by
  obtain ⟨a1, c1, rfl⟩ := rowA_shape h1
  obtain ⟨a2, c2, rfl⟩ := rowA_shape h2
  have H := Pk.hid h
  have H1 := Pk.hid h1
  have H2 := Pk.hid h2
  have Hf := Pk.hid hf
  clear h h1 h2 hf
  go_enter Tryz.func48, Tryz.ntmps48
  go_wp2_with fail
  refine (sameTexts_any _ _ _ _ L _ H1.out H2.out (by omega)).mono ?_
  rintro e w1 ⟨rfl, m, rfl⟩
  have hb : Below w.heap.size w (w.drewN m) := below_drewN (Below.refl _ _) m
  have HB := Pk.hid hb
  have HS : Hid (Sta (w.drewN m) F K pb mb rb M R g n) := H.out.below hb
  have HR : Hid ((w.drewN m).ownsRow (g + 1) 9 1 (.slice a1 L.length c1) L.length (L.map Value.string)) := rowA_chg (T := fun _ => False) (Chg.ofBelow hb) H1.out (fun _ _ e => e)
  clear hb
  generalize w.drewN m = w1 at *
  go_wp2_with fail
  refine (st_ownsT HS.out hn _ L HR.out hl Hf.out).mono ?_
  rintro e w2 ⟨rfl, F', s1, s2⟩
  have HE : Hid (∃ F', Sta w2 F' K pb mb rb M R g (n + 1) ∧ Took w F (.slice a1 L.length c1) w2 F') := ⟨F', s1, Took.before HB.out s2⟩
  clear s1 s2
  go_wp2_with fail
  refine (errNum_any _ _).mono ?_
  rintro e w3 ⟨rfl, hw3⟩
  rw [hw3]
  clear hw3
  go_wp2
  go_ret
  exact ⟨rfl, HE.out⟩

set_option maxRecDepth 20000 in
set_option maxHeartbeats 4000000 in
theorem lmissing_any {w : World} {F : Nat → Nat → Nat} {K : Nat} {pb mb rb : Nat → Nat} {M : Nat → Md} {R : Nat → Rm} {g n q k : Nat} (h : Sta w F K pb mb rb M R g n) (hk : k < K) (hr : Rel q (M k) (R k)) (hn : n ≤ 9000000) (so : Int) :
    Calls Tryz.prog 10 #[.pointer (some ⟨pb k, 0, none⟩), .pointer (some ⟨g, 0, none⟩), .int .i64 so] w fun e w' => e = .returned (.bool true) ∧ ∃ F', Sta w' F' K pb mb rb M R g (n + 2) ∧ SMv w F w' F' := by
  have H := Pk.hid h
  have Hr := Pk.hid hr
  obtain ⟨y0, y1, -⟩ := h.pc k hk
  obtain ⟨hm1, hm2⟩ := hr.miss so
  have hgl := h.glt
  obtain ⟨PK, hPK⟩ : ∃ PK, pb k = PK := ⟨_, rfl⟩
  have HPK := Pk.hid hPK
  rw [hPK] at y0 y1 ⊢
  unfold ptr at y0 y1
  have Hm1 := Pk.hid hm1
  have Hm2 := Pk.hid hm2
  clear h hr hm1 hm2 hPK
  have hpl : PK < w.heap.size := lt_of_cell y0
  go_enter Tryz.func10, Tryz.ntmps10
  go_wp2_with fail
  refine (st_missM H.out hk Hr.out so).mono ?_
  rintro e w1 ⟨hb1, v1, rfl, o1⟩
  have H1 : Hid (Sta w1 F K pb mb rb M R g n) := H.out.below hb1
  have HB1 := Pk.hid hb1
  have hz1 := hb1.size
  have z0 : w1.cell? ⟨PK, 0, none⟩ = some (.pointer (some ⟨mb k, 0, none⟩)) := (hb1.cell (p := ⟨PK, 0, none⟩) hpl).trans y0
  have z1 : w1.cell? ⟨PK, 1, none⟩ = some (.pointer (some ⟨rb k, 0, none⟩)) := (hb1.cell (p := ⟨PK, 1, none⟩) hpl).trans y1
  have O1 := Pk.hid o1
  obtain ⟨a1, c1, rfl⟩ := o1.shape
  clear hb1 o1 y0 y1
  go_wp2_with fail
  refine (st_missM H1.out hk Hr.out so).mono ?_
  rintro e w2 ⟨hb2, v2, rfl, o2⟩
  have H2 : Hid (Sta w2 F K pb mb rb M R g n) := H1.out.below hb2
  have HB2 := Pk.hid hb2
  have hz2 := hb2.size
  have t1 : w2.cell? ⟨PK, 1, none⟩ = some (.pointer (some ⟨rb k, 0, none⟩)) := (hb2.cell (p := ⟨PK, 1, none⟩) (lt_of_cell z1)).trans z1
  have O2 := Pk.hid o2
  obtain ⟨a2, c2, rfl⟩ := o2.shape
  clear hb2 o2 z0 z1
  go_wp2_with fail
  refine (st_missR H2.out hk Hr.out so).mono ?_
  rintro e w3 ⟨hb3, v3, rfl, o3⟩
  have H3 : Hid (Sta w3 F K pb mb rb M R g n) := H2.out.below hb3
  have hz3 := hb3.size
  rw [← Hm1.out] at o3 ⊢
  have O3 := Pk.hid o3
  obtain ⟨a3, c3, rfl⟩ := o3.shape
  have O2' : Hid (OwnInts w3 w1.heap.size (.slice a2 (missM (M k) so).1.length c2) (missM (M k) so).1) := rowA_chg (T := fun _ => False) (Chg.ofBelow hb3) O2.out (fun _ _ e => e)
  have O1' : Hid (OwnInts w3 w.heap.size (.slice a1 (missM (M k) so).1.length c1) (missM (M k) so).1) := rowA_chg (T := fun _ => False) (Chg.ofBelow hb3) (rowA_chg (T := fun _ => False) (Chg.ofBelow HB2.out) O1.out (fun _ _ e => e)) (fun _ _ e => e)
  have HB3 : Hid (Below w.heap.size w w3) := (HB1.out.trans (HB2.out.mono hz1)).trans (hb3.mono (Nat.le_trans hz1 hz2))
  have HX1 : Hid (∀ b, (Value.slice a1 (missM (M k) so).1.length c1).ownBlock = some b → w.heap.size ≤ b ∧ b < w1.heap.size) := fun b hb => O1.out.lt b hb
  clear hb3 o3 t1 O1 O2 HB1 HB2
  generalize missM (M k) so = MS at *
  obtain ⟨l, er⟩ := MS
  simp only at O1' O2' O3 HX1 Hm2 ⊢
  have hl2 := Hm2.out
  go_wp2_with fail
  refine (sameNumbers_any _ _ _ l l _ O1'.out.isInts O3.out.isInts (by omega) (by omega)).mono ?_
  rintro e w4 ⟨rfl, m4, rfl⟩
  have hb4 : Below w3.heap.size w3 (w3.drewN m4) := below_drewN (Below.refl _ _) m4
  have H4 : Hid (Sta (w3.drewN m4) F K pb mb rb M R g n) := H3.out.below hb4
  have P2 : Hid (OwnInts (w3.drewN m4) w1.heap.size (.slice a2 l.length c2) l) := rowA_chg (T := fun _ => False) (Chg.ofBelow hb4) O2'.out (fun _ _ e => e)
  have P1 : Hid (OwnInts (w3.drewN m4) w.heap.size (.slice a1 l.length c1) l) := rowA_chg (T := fun _ => False) (Chg.ofBelow hb4) O1'.out (fun _ _ e => e)
  have P3 : Hid (OwnInts (w3.drewN m4) w2.heap.size (.slice a3 l.length c3) l) := rowA_chg (T := fun _ => False) (Chg.ofBelow hb4) O3.out (fun _ _ e => e)
  have HB4 : Hid (Below w.heap.size w (w3.drewN m4)) := HB3.out.trans (hb4.mono HB3.out.size)
  have hz4 := hb4.size
  clear hb4 O1' O2' O3 H3 HB3
  generalize w3.drewN m4 = w4 at *
  go_wp2_with fail
  refine (sameNumbers_any _ _ _ l l _ P2.out.isInts P3.out.isInts (by omega) (by omega)).mono ?_
  rintro e w5 ⟨rfl, m5, rfl⟩
  have hb5 : Below w4.heap.size w4 (w4.drewN m5) := below_drewN (Below.refl _ _) m5
  have H5 : Hid (Sta (w4.drewN m5) F K pb mb rb M R g n) := H4.out.below hb5
  have Q2 : Hid (OwnInts (w4.drewN m5) w1.heap.size (.slice a2 l.length c2) l) := rowA_chg (T := fun _ => False) (Chg.ofBelow hb5) P2.out (fun _ _ e => e)
  have Q1 : Hid (OwnInts (w4.drewN m5) w.heap.size (.slice a1 l.length c1) l) := rowA_chg (T := fun _ => False) (Chg.ofBelow hb5) P1.out (fun _ _ e => e)
  have HB5 : Hid (Below w.heap.size w (w4.drewN m5)) := HB4.out.trans (hb5.mono HB4.out.size)
  have hz5 := hb5.size
  clear hb5 P1 P2 P3 H4 HB4
  generalize w4.drewN m5 = w5 at *
  go_wp2_with fail
  refine (st_ownsN H5.out (by omega) _ l (row_mono Q1.out (by omega)) (by omega) (fun b hb => H.out.free (HX1.out b hb).1)).mono ?_
  rintro e w6 ⟨rfl, F1, s1, s2⟩
  have H6 := Pk.hid s1
  have hX2 : ∀ b, (Value.slice a2 l.length c2).ownBlock = some b → w1.heap.size ≤ b ∧ b < w5.heap.size := fun b hb => Q2.out.lt b hb
  have hN2 : ∀ b, (Value.slice a2 l.length c2).ownBlock = some b → ¬ ((∃ i, F i b ≠ 0) ∨ (Value.slice a1 l.length c1).ownBlock = some b) := fun b hb e => by
    have h1 := hX2 b hb
    rcases e with ⟨i, e⟩ | e
    · exact e ((H.out.free (by omega)).1 i)
    · have := HX1.out b e; omega
  have Q3 : Hid (OwnInts w6 w1.heap.size (.slice a2 l.length c2) l) := rowA_chg s2.2 Q2.out hN2
  have HF2 : Hid (∀ b, (Value.slice a2 l.length c2).ownBlock = some b → (∀ j, F1 j b = 0) ∧ ∀ k, k < K → b ≠ pb k) := fun b hb => by
    have h1 := hX2 b hb
    have h2 := H.out.free (b := b) (by omega)
    exact ⟨s2.1 b h1.2 (fun e => by have := HX1.out b e; omega) h2.1, h2.2⟩
  have HV : Hid (SMv w F w6 F1) := SMv.took (SMv.below HB5.out) s2 (fun b hb => (HX1.out b hb).1)
  clear s1 s2 hX2 hN2 Q1 Q2
  go_wp2_with fail
  refine (st_ownsN H6.out (by omega) _ l (row_mono Q3.out (by omega)) (by omega) HF2.out).mono ?_
  rintro e w7 ⟨rfl, F2, s1, s2⟩
  have HE : Hid (∃ F', Sta w7 F' K pb mb rb M R g (n + 2) ∧ SMv w F w7 F') := ⟨F2, s1, HV.out.took s2 (fun b hb => Nat.le_trans hz1 (Q3.out.lt b hb).1)⟩
  clear s1 s2 Q3 H6
  go_wp2_with fail
  refine (errNum_any _ _).mono ?_
  rintro e w8 ⟨rfl, hw8⟩
  rw [hw8]
  clear hw8
  go_wp2_with fail
  refine (errNum_any _ _).mono ?_
  rintro e w9 ⟨rfl, hw9⟩
  rw [hw9]
  clear hw9
  go_wp2
  go_ret
  exact ⟨rfl, HE.out⟩

end Go.Proofs.YtdjhhnolcafkiaaGreat

/- begun; moves of a packet. -/
namespace Go.Proofs.YtdjhhnolcafkiaaGreat
open Go.RowKit Pk
namespace Rl
/-- one step of a script -/
structure OpD where
  kind : Int
  n : Int
  tx : ByteArray
  pl : Plan
  cf : Cfg
  pk : PP
  ca : Option Addr
  cc : Nat
  s1 : Int
  s2 : Int
  na : Option Addr
  nl : Nat
  nc : Nat
/-- its cells, under a kind -/
abbrev opKL (kind : Int) (o : OpD) : List Value := [.int .i64 kind, .int .i64 o.n, .string o.tx, .int .i64 o.pl.source, .int .i64 o.pl.second, .int .i64 o.pl.ty, .int .i64 o.pl.secondTy, .int .i64 o.pl.first, .int .i64 o.pl.secondFirst, .int .i64 o.cf.ring, .int .i64 o.cf.window, .int .i64 o.cf.delay, .int .i64 o.cf.rate, .int .i64 o.cf.burst, .int .i64 o.cf.retry, .int .i64 o.cf.tries, .bool o.pk.mrk, .int .i64 o.pk.ty, .int .i64 o.pk.nu, .int .i64 o.pk.ti, .int .i64 o.pk.so, .slice o.ca o.pk.cl.length o.cc, .bool o.pk.ex, .int .i64 o.pk.pr, .string o.pk.en, .string o.pk.py, .int .i64 o.pk.pa, .int .i64 o.s1, .int .i64 o.s2, .slice o.na o.nl o.nc]
abbrev opK (kind : Int) (o : OpD) : Array Value := (opKL kind o).toArray
/-- what is known of it -/
structure OpOk (A : Nat) (W : World) (o : OpD) : Prop where
  tx : o.tx.size ≤ maxLen
  en : o.pk.en.size ≤ 140737488355328
  py : o.pk.py.size ≤ 140737488355328
  cl : o.pk.cl.length ≤ 17592186044416
  cv : IsInts A W (.slice o.ca o.pk.cl.length o.cc) o.pk.cl
theorem tellR_size (mk ex : Bool) (ty nu ti so pr pa : Int) (cl : List Int) (en py : ByteArray) : (tellR mk ex ty nu ti so pr pa cl en py).1.size ≤ 1500 := by
  unfold tellR
  split
  · rename_i hok
    split
    · exact Nat.zero_le _
    · rename_i hl
      have h0 : 0 ≤ pa := by
        simp only [tellOk, Bool.and_eq_true, decide_eq_true_eq] at hok
        exact hok.2.1
      have h1 := tellB_length mk ex ty nu ti so pr pa cl en py h0
      have h2 : (ByteArray.mk (tellB mk ex ty nu ti so pr pa cl en py).toArray).size = (tellB mk ex ty nu ti so pr pa cl en py).length := by simp [ByteArray.size]
      show (ByteArray.mk (tellB mk ex ty nu ti so pr pa cl en py).toArray).size ≤ 1500
      omega
  · exact Nat.zero_le _
theorem text_nil {t : ByteArray} (h : t.toList = []) : t = ⟨#[]⟩ := by
  rw [ByteArray.toList_eq] at h
  apply ByteArray.ext
  apply Array.toList_inj.1
  exact h
theorem packetM_len (M : Md) (t : ByteArray) (cv : Value) (h8 : M.wns.length ≤ 8) : (packetM M t cv).2.1.length ≤ 8 := by
  unfold packetM
  split
  · exact Nat.zero_le _
  · split
    · exact Nat.zero_le _
    · split
      · exact Nat.zero_le _
      · split
        · exact Nat.zero_le _
        · split
          · exact Nat.zero_le _
          · exact Nat.le_trans (textsTo_len _ _ _) h8
/-- a pair that has just been made -/
structure PrN (w W : World) (pb mb rb : Nat) (ρm ρr : Nat → Nat) (c : Cfg) : Prop where
  c0 : W.cell? ⟨pb, 0, none⟩ = some (ptr mb)
  c1 : W.cell? ⟨pb, 1, none⟩ = some (ptr rb)
  md : MdAt W ρm mb (newM c) (.slice none 0 0) (.slice none 0 0) [] []
  rd : RdAt W ρr rb (rNew c) (.slice none 0 0) (.slice none 0 0)
  nm : ∀ b, ρm b ≠ 0 → w.heap.size ≤ b ∧ ρr b = 0 ∧ b ≠ pb
  nr : ∀ b, ρr b ≠ 0 → w.heap.size ≤ b ∧ b ≠ pb
  np : w.heap.size ≤ pb
end Rl
open Rl

set_option maxRecDepth 20000 in
set_option maxHeartbeats 4000000 in
theorem begun_any (c : Cfg) (w : World) :
    Calls Tryz.prog 7 #[.agg #[.int .i64 c.ring, .int .i64 c.window, .int .i64 c.delay, .int .i64 c.rate, .int .i64 c.burst, .int .i64 c.retry, .int .i64 c.tries]] w fun e w' => Below w.heap.size w w' ∧
      ((cfgOk c = false ∧ e = .returned (.tuple #[.pointer none, .bool true])) ∨ (cfgOk c = true ∧ ∃ pb mb rb ρm ρr, e = .returned (.tuple #[.pointer (some ⟨pb, 0, none⟩), .bool true]) ∧ PrN w w' pb mb rb ρm ρr c)) := by
  go_enter Tryz.func7, Tryz.ntmps7
  go_wp2_with fail
  refine (new_any c _).mono ?_
  rintro e w1 ⟨hb1, hc1⟩
  have hB1 : Below w.heap.size w w1 := ((Below.refl w.heap.size w).alloc (Nat.le_refl _) _).trans (hb1.mono (by simp))
  have hz1 : w.heap.size < w1.heap.size := by have := hb1.size; simp at this; omega
  have q0 : ∀ j : Nat, w1.cell? ⟨w.heap.size, j, none⟩ = #[.int .i64 c.ring, .int .i64 c.window, .int .i64 c.delay, .int .i64 c.rate, .int .i64 c.burst, .int .i64 c.retry, .int .i64 c.tries][j]? := fun j => by
    rw [hb1.cell (p := ⟨w.heap.size, j, none⟩) (by simp)]
    exact cell_new _ _ _ j
  have k0 := q0 0
  have k1 := q0 1
  have k2 := q0 2
  have k3 := q0 3
  have k4 := q0 4
  have k5 := q0 5
  have k6 := q0 6
  simp at k0 k1 k2 k3 k4 k5 k6
  have HB1 := Pk.hid hB1
  clear hB1 q0
  rcases hc1 with ⟨hf, rfl⟩ | ⟨hf, mb, ρm, hmb, rfl, hmd, hρ⟩
  · have Hf : Hid (cfgOk c = false) := hf
    clear hb1 hf
    go_wp2_with fail
    refine (refNew_any c _).mono ?_
    rintro e w2 ⟨hb2, ⟨hf2, rfl⟩ | ⟨hf2, rb, hrb, rfl, hrd⟩⟩
    · have HB2 : Hid (Below w.heap.size w w2) := HB1.out.trans (hb2.mono (Nat.le_of_lt hz1))
      clear hb2 hf2 k0 k1 k2 k3 k4 k5 k6
      go_wp2_with fail
      refine (errNum_any _ _).mono ?_
      rintro e w3 ⟨rfl, hw3⟩
      rw [hw3]
      clear hw3
      go_wp2
      go_ret2
      exact ⟨HB2.out, .inl ⟨Hf.out, rfl⟩⟩
    · exact absurd (Hf.out.symm.trans hf2) (by decide)
  · have Hf : Hid (cfgOk c = true) := hf
    have HM := Pk.hid hmd
    have HR : Hid (∀ b, ρm b ≠ 0 → w.heap.size ≤ b) := fun b hb => by have := hρ b hb; simp at this; omega
    clear hb1 hf hmd hρ
    go_wp2_with fail
    refine (refNew_any c _).mono ?_
    rintro e w2 ⟨hb2, ⟨hf2, rfl⟩ | ⟨hf2, rb, hrb, rfl, hrd⟩⟩
    · exact absurd (Hf.out.symm.trans hf2) (by decide)
    · have HB2 : Hid (Below w.heap.size w w2) := HB1.out.trans (hb2.mono (Nat.le_of_lt hz1))
      have HM2 : Hid (MdAt w2 ρm mb (newM c) (.slice none 0 0) (.slice none 0 0) [] []) := HM.out.below hb2
      have HR2 := Pk.hid hrd
      have hz2 := hb2.size
      have HZ : Hid (∀ b, w1.heap.size ≤ b → ρm b = 0) := HM.out.hi
      clear hb2 hf2 hrd k0 k1 k2 k3 k4 k5 k6 HM
      go_wp2_with fail
      refine (errNum_any _ _).mono ?_
      rintro e w3 ⟨rfl, hw3⟩
      rw [hw3]
      clear hw3
      go_wp2
      go_ret2
      have hA := ((Below.refl w2.heap.size w2).alloc (Nat.le_refl _) (.cells #[.pointer (some ⟨mb, 0, none⟩), .pointer (some ⟨rb, 0, none⟩)] 57))
      refine ⟨HB2.out.alloc HB2.out.size _, .inr ⟨Hf.out, _, mb, rb, ρm, newRoleM rb, rfl, cell_new _ _ _ 0, cell_new _ _ _ 1, HM2.out.below hA, HR2.out.below hA, fun b hb => ⟨HR.out b hb, ?_, fun e => ?_⟩, fun b hb => ?_, HB2.out.size⟩⟩
      · unfold newRoleM
        refine if_neg (fun e => hb ?_)
        rw [e]
        exact HZ.out rb hrb
      · exact hb (HM2.out.hi b (by omega))
      · unfold newRoleM at hb
        split at hb
        · rename_i e
          have h1 := HR2.out.lt
          rw [e]
          exact ⟨by omega, by omega⟩
        · exact absurd rfl hb

set_option maxRecDepth 20000 in
set_option maxHeartbeats 4000000 in
theorem movesT_any {w : World} {F : Nat → Nat → Nat} {K : Nat} {pb mb rb : Nat → Nat} {M : Nat → Md} {R : Nat → Rm} {g n q k : Nat} (o : OpD) (A : Nat) (h : Sta w F K pb mb rb M R g n) (hk : k < K) (hr : Rel q (M k) (R k)) (hq : q ≤ 1999999) (hn : n ≤ 9000000) (ho : OpOk A w o) (hA : A ≤ w.heap.size) :
    Calls Tryz.prog 21 #[.pointer (some ⟨pb k, 0, none⟩), .pointer (some ⟨g, 0, none⟩), .agg (opK 4 o)] w fun e w' => e = .returned (.bool true) ∧ ∃ F' M1 R1, Sta w' F' K pb mb rb (upd M k M1) (upd R k R1) g (n + 1) ∧ Rel (q + 1) M1 R1 ∧ SMv w F w' F' := by
  have H := Pk.hid h
  have Hr := Pk.hid hr
  obtain ⟨y0, y1, y2⟩ := h.pc k hk
  have hgl := h.glt
  obtain ⟨PK, hPK⟩ : ∃ PK, pb k = PK := ⟨_, rfl⟩
  have HPK := Pk.hid hPK
  rw [hPK] at y0 y1 y2 ⊢
  unfold ptr at y0 y1
  have hpl : PK < w.heap.size := lt_of_cell y0
  have Hy := Pk.hid y2
  have Ho := Pk.hid ho
  clear h hr hPK ho y2
  unfold opK opKL
  by_cases htx : o.tx = ⟨#[]⟩
  · rw [htx]
    go_enter Tryz.func21, Tryz.ntmps21
    go_wp2_with fail
    have hbA : ∀ bk, Below w.heap.size w (w.alloc bk) := fun bk => (Below.refl _ _).alloc (Nat.le_refl _) bk
    refine (refTell_any o.pk.mrk o.pk.ex o.pk.ty o.pk.nu o.pk.ti o.pk.so o.pk.pr o.pk.pa (.slice o.ca o.pk.cl.length o.cc) o.pk.cl o.pk.en o.pk.py _ A (by simp; omega) (Ho.out.cv.carry ((hbA _).mono hA)) Ho.out.cl Ho.out.en Ho.out.py).mono ?_
    rintro e w1 ⟨rfl, hb1⟩
    have hsz := tellR_size o.pk.mrk o.pk.ex o.pk.ty o.pk.nu o.pk.ti o.pk.so o.pk.pr o.pk.pa o.pk.cl o.pk.en o.pk.py
    generalize tellR o.pk.mrk o.pk.ex o.pk.ty o.pk.nu o.pk.ti o.pk.so o.pk.pr o.pk.pa o.pk.cl o.pk.en o.pk.py = TR at *
    obtain ⟨t, t2⟩ := TR
    have HB1 : Hid (Below w.heap.size w w1) := (hbA _).trans (hb1.mono (by simp))
    have ht : t.size ≤ maxLen := by unfold maxLen; simp only at hsz; omega
    clear hb1 hsz hbA
    have HS1 : Hid (Sta w1 F K pb mb rb M R g n) := H.out.below HB1.out
    have z0 : w1.cell? ⟨PK, 0, none⟩ = some (.pointer (some ⟨mb k, 0, none⟩)) := (HB1.out.cell (p := ⟨PK, 0, none⟩) hpl).trans y0
    clear y0 y1
    go_wp2_with fail
    have hz1 := HB1.out.size
    refine (st_packet HS1.out hk Hr.out (by omega) t ht).mono ?_
    rintro e w2 ⟨cv, tv, F2, rfl, s1, s2, s3, s4⟩
    have H2 := Pk.hid s1
    have V2 : Hid (SMv w F w2 F2) := SMv.trans (SMv.below HB1.out) s2
    obtain ⟨a1, c1, rfl⟩ := rowA_shape s3
    have O2 := Pk.hid s3
    have Z2 := Pk.hid s4
    have u1 : w2.cell? ⟨PK, 1, none⟩ = some (.pointer (some ⟨rb k, 0, none⟩)) := by have h1 := (s1.pc k hk).2.1; rw [HPK.out] at h1; exact h1
    have hl8 := packetM_len (M k) t cv Hr.out.w8
    have HPA : Hid (∀ R' out er, RPk (R k) t (M k).c.window.toNat R' out er → (packetM (M k) t cv).2.1 = out ∧ (packetM (M k) t cv).2.2 = er ∧ Rel (q + 1) (packetM (M k) t cv).1 R') := fun R' out er hp => Hr.out.packet t cv R' out er hp
    clear s1 s2 s3 s4 z0
    generalize packetM (M k) t cv = PM at *
    obtain ⟨M1, L, er⟩ := PM
    simp only at H2 O2 Z2 hl8 HPA ⊢
    go_wp2_with fail
    refine (st_refPacket H2.out hk Hr.out (by omega) t ht).mono ?_
    rintro e w3 ⟨tv, R1, out, er', F3, rfl, hp, s1, s2, s3⟩
    obtain ⟨rfl, rfl, hrel⟩ := HPA.out _ _ _ hp
    have HREL := Pk.hid hrel
    have H3 := Pk.hid s1
    have V3 : Hid (SMv w F w3 F3) := V2.out.trans s2
    obtain ⟨a2, c2, rfl⟩ := rowA_shape s3
    have O3 := Pk.hid s3
    have O2' : Hid (w3.ownsRow (g + 1) 9 1 (.slice a1 L.length c1) L.length (L.map Value.string)) := row_mono (rowA_chg s2.2 O2.out (fun b hb ⟨i, e⟩ => e (Z2.out b hb i))) (by omega)
    have HF : Hid (∀ b, (Value.slice a1 L.length c1).ownBlock = some b → (∀ j, F3 j b = 0) ∧ ∀ k, k < K → b ≠ pb k) := fun b hb => ⟨s2.1 b (O2.out.lt b hb).2 (Z2.out b hb), (H.out.free (Nat.le_trans hz1 (O2.out.lt b hb).1)).2⟩
    have HX : Hid (∀ b, (Value.slice a1 L.length c1).ownBlock = some b → w.heap.size ≤ b) := fun b hb => Nat.le_trans hz1 (O2.out.lt b hb).1
    clear s1 s2 s3 hp hrel HPA O2 Z2 u1
    go_wp2_with fail
    refine (texts_any H3.out (by omega) _ _ L _ _ O2'.out O3.out (by omega) HF.out).mono ?_
    rintro e w4 ⟨rfl, F4, s1, s2⟩
    have HE : Hid (∃ F' M1 R1, Sta w4 F' K pb mb rb (upd M k M1) (upd R k R1) g (n + 1) ∧ Rel (q + 1) M1 R1 ∧ SMv w F w4 F') := ⟨F4, M1, R1, s1, HREL.out, V3.out.took s2 HX.out⟩
    clear s1 s2 O2' O3 HF
    go_wp2
    go_ret
    exact ⟨rfl, HE.out⟩
  · have hte1 : ¬ o.tx.toList = [] := fun e => htx (text_nil e)
    have hte2 : (o.tx.toList == []) = false := by rw [beq_eq_false_iff_ne]; exact hte1
    have hte3 : o.tx.toList.isEmpty = false := by rw [List.isEmpty_eq_false_iff]; exact hte1
    obtain ⟨t, htt⟩ : ∃ t, o.tx = t := ⟨_, rfl⟩
    have ht : t.size ≤ maxLen := by rw [← htt]; exact Ho.out.tx
    rw [htt] at hte1 hte2 hte3 ⊢
    have HB0 : Hid (∀ bk, Below w.heap.size w (w.alloc bk)) := fun bk => (Below.refl _ _).alloc (Nat.le_refl _) bk
    have z0' : ∀ bk, (w.alloc bk).cell? ⟨PK, 0, none⟩ = some (.pointer (some ⟨mb k, 0, none⟩)) := fun bk => ((HB0.out bk).cell (p := ⟨PK, 0, none⟩) hpl).trans y0
    go_enter Tryz.func21, Tryz.ntmps21
    go_wp2_with fail
    have HB1' := HB0.out (.cells #[.int .i64 4, .int .i64 o.n, .string t, .int .i64 o.pl.source, .int .i64 o.pl.second, .int .i64 o.pl.ty, .int .i64 o.pl.secondTy, .int .i64 o.pl.first, .int .i64 o.pl.secondFirst, .int .i64 o.cf.ring, .int .i64 o.cf.window, .int .i64 o.cf.delay, .int .i64 o.cf.rate, .int .i64 o.cf.burst, .int .i64 o.cf.retry, .int .i64 o.cf.tries, .bool o.pk.mrk, .int .i64 o.pk.ty, .int .i64 o.pk.nu, .int .i64 o.pk.ti, .int .i64 o.pk.so, .slice o.ca o.pk.cl.length o.cc, .bool o.pk.ex, .int .i64 o.pk.pr, .string o.pk.en, .string o.pk.py, .int .i64 o.pk.pa, .int .i64 o.s1, .int .i64 o.s2, .slice o.na o.nl o.nc] 45)
    generalize w.alloc (.cells #[.int .i64 4, .int .i64 o.n, .string t, .int .i64 o.pl.source, .int .i64 o.pl.second, .int .i64 o.pl.ty, .int .i64 o.pl.secondTy, .int .i64 o.pl.first, .int .i64 o.pl.secondFirst, .int .i64 o.cf.ring, .int .i64 o.cf.window, .int .i64 o.cf.delay, .int .i64 o.cf.rate, .int .i64 o.cf.burst, .int .i64 o.cf.retry, .int .i64 o.cf.tries, .bool o.pk.mrk, .int .i64 o.pk.ty, .int .i64 o.pk.nu, .int .i64 o.pk.ti, .int .i64 o.pk.so, .slice o.ca o.pk.cl.length o.cc, .bool o.pk.ex, .int .i64 o.pk.pr, .string o.pk.en, .string o.pk.py, .int .i64 o.pk.pa, .int .i64 o.s1, .int .i64 o.s2, .slice o.na o.nl o.nc] 45) = w1 at *
    have HB1 : Hid (Below w.heap.size w w1) := HB1'
    clear HB1' z0' htt htx hte1 hte2 hte3
    have HS1 : Hid (Sta w1 F K pb mb rb M R g n) := H.out.below HB1.out
    clear y0 y1
    have hz1 := HB1.out.size
    refine (st_packet HS1.out hk Hr.out (by omega) t ht).mono ?_
    rintro e w2 ⟨cv, tv, F2, rfl, s1, s2, s3, s4⟩
    have H2 := Pk.hid s1
    have V2 : Hid (SMv w F w2 F2) := SMv.trans (SMv.below HB1.out) s2
    obtain ⟨a1, c1, rfl⟩ := rowA_shape s3
    have O2 := Pk.hid s3
    have Z2 := Pk.hid s4
    have u1 : w2.cell? ⟨PK, 1, none⟩ = some (.pointer (some ⟨rb k, 0, none⟩)) := by have h1 := (s1.pc k hk).2.1; rw [HPK.out] at h1; exact h1
    have hl8 := packetM_len (M k) t cv Hr.out.w8
    have HPA : Hid (∀ R' out er, RPk (R k) t (M k).c.window.toNat R' out er → (packetM (M k) t cv).2.1 = out ∧ (packetM (M k) t cv).2.2 = er ∧ Rel (q + 1) (packetM (M k) t cv).1 R') := fun R' out er hp => Hr.out.packet t cv R' out er hp
    clear s1 s2 s3 s4
    generalize packetM (M k) t cv = PM at *
    obtain ⟨M1, L, er⟩ := PM
    simp only at H2 O2 Z2 hl8 HPA ⊢
    go_wp2_with fail
    refine (st_refPacket H2.out hk Hr.out (by omega) t ht).mono ?_
    rintro e w3 ⟨tv, R1, out, er', F3, rfl, hp, s1, s2, s3⟩
    obtain ⟨rfl, rfl, hrel⟩ := HPA.out _ _ _ hp
    have HREL := Pk.hid hrel
    have H3 := Pk.hid s1
    have V3 : Hid (SMv w F w3 F3) := V2.out.trans s2
    obtain ⟨a2, c2, rfl⟩ := rowA_shape s3
    have O3 := Pk.hid s3
    have O2' : Hid (w3.ownsRow (g + 1) 9 1 (.slice a1 L.length c1) L.length (L.map Value.string)) := row_mono (rowA_chg s2.2 O2.out (fun b hb ⟨i, e⟩ => e (Z2.out b hb i))) (by omega)
    have HF : Hid (∀ b, (Value.slice a1 L.length c1).ownBlock = some b → (∀ j, F3 j b = 0) ∧ ∀ k, k < K → b ≠ pb k) := fun b hb => ⟨s2.1 b (O2.out.lt b hb).2 (Z2.out b hb), (H.out.free (Nat.le_trans hz1 (O2.out.lt b hb).1)).2⟩
    have HX : Hid (∀ b, (Value.slice a1 L.length c1).ownBlock = some b → w.heap.size ≤ b) := fun b hb => Nat.le_trans hz1 (O2.out.lt b hb).1
    clear s1 s2 s3 hp hrel HPA O2 Z2 u1
    go_wp2_with fail
    refine (texts_any H3.out (by omega) _ _ L _ _ O2'.out O3.out (by omega) HF.out).mono ?_
    rintro e w4 ⟨rfl, F4, s1, s2⟩
    have HE : Hid (∃ F' M1 R1, Sta w4 F' K pb mb rb (upd M k M1) (upd R k R1) g (n + 1) ∧ Rel (q + 1) M1 R1 ∧ SMv w F w4 F') := ⟨F4, M1, R1, s1, HREL.out, V3.out.took s2 HX.out⟩
    clear s1 s2 O2' O3 HF
    go_wp2
    go_ret
    exact ⟨rfl, HE.out⟩

end Go.Proofs.YtdjhhnolcafkiaaGreat

/- step, for the kinds up to 6. -/
namespace Go.Proofs.YtdjhhnolcafkiaaGreat
open Go.RowKit Pk
namespace Rl
/-- a pair's cell, a step's number and its plan -/
def StS (PK j B : Nat) (u : Value) (n : Int) (p : Plan) (W : World) : Prop := W.cell? ⟨PK, j, none⟩ = some u ∧ W.cell? ⟨B, 1, none⟩ = some (.int .i64 n) ∧ W.cell? ⟨B, 3, none⟩ = some (.int .i64 p.source) ∧ W.cell? ⟨B, 4, none⟩ = some (.int .i64 p.second) ∧ W.cell? ⟨B, 5, none⟩ = some (.int .i64 p.ty) ∧ W.cell? ⟨B, 6, none⟩ = some (.int .i64 p.secondTy) ∧ W.cell? ⟨B, 7, none⟩ = some (.int .i64 p.first) ∧ W.cell? ⟨B, 8, none⟩ = some (.int .i64 p.secondFirst)
/-- a pair's cells, and how the document's mender stands -/
def LkS (PK mb rb : Nat) (s : Stt) (W : World) : Prop := W.cell? ⟨PK, 0, none⟩ = some (.pointer (some ⟨mb, 0, none⟩)) ∧ W.cell? ⟨PK, 1, none⟩ = some (.pointer (some ⟨rb, 0, none⟩)) ∧ W.cell? ⟨rb, 7, none⟩ = some (.int .i64 s.now) ∧ W.cell? ⟨rb, 8, none⟩ = some (.int .i64 s.tokens) ∧ W.cell? ⟨rb, 9, none⟩ = some (.int .i64 s.passed) ∧ W.cell? ⟨rb, 10, none⟩ = some (.int .i64 s.late) ∧ W.cell? ⟨rb, 11, none⟩ = some (.int .i64 s.doubled) ∧ W.cell? ⟨rb, 12, none⟩ = some (.int .i64 s.wrong) ∧ W.cell? ⟨rb, 13, none⟩ = some (.int .i64 s.unknown) ∧ W.cell? ⟨rb, 14, none⟩ = some (.int .i64 s.again) ∧ W.cell? ⟨rb, 15, none⟩ = some (.int .i64 s.refused) ∧ W.cell? ⟨rb, 16, none⟩ = some (.int .i64 s.asked) ∧ W.cell? ⟨rb, 17, none⟩ = some (.int .i64 s.givenUp)
section
variable {w : World} {F : Nat → Nat → Nat} {K : Nat} {pb mb rb : Nat → Nat} {M : Nat → Md} {R : Nat → Rm} {g n k : Nat}
theorem Sta.lk (h : Sta w F K pb mb rb M R g n) (hk : k < K) : LkS (pb k) (mb k) (rb k) (R k).s w := by
  obtain ⟨a1, a2, -⟩ := h.pc k hk
  obtain ⟨sv, wv, a⟩ := h.rd k hk
  exact ⟨a1, a2, a.k 7 _ rfl, a.k 8 _ rfl, a.k 9 _ rfl, a.k 10 _ rfl, a.k 11 _ rfl, a.k 12 _ rfl, a.k 13 _ rfl, a.k 14 _ rfl, a.k 15 _ rfl, a.k 16 _ rfl, a.k 17 _ rfl⟩
end
end Rl
open Rl

set_option maxRecDepth 20000 in
set_option maxHeartbeats 4000000 in
theorem step1_any {w : World} {F : Nat → Nat → Nat} {K : Nat} {pb mb rb : Nat → Nat} {M : Nat → Md} {R : Nat → Rm} {g n q k : Nat} (o : OpD) (A : Nat) (h : Sta w F K pb mb rb M R g n) (hk : k < K) (hr : Rel q (M k) (R k)) (_hq : q ≤ 1999999) (_hn : n ≤ 8000000) (ho : OpOk A w o) (_hA : A ≤ w.heap.size) :
    Calls Tryz.prog 8 #[.pointer (some ⟨pb k, 0, none⟩), .pointer (some ⟨g, 0, none⟩), .agg (opK 1 o)] w fun e w' => e = .returned (.bool true) ∧ ∃ F' M1 R1, Sta w' F' K pb mb rb (upd M k M1) (upd R k R1) g (n + 2) ∧ Rel (q + 1) M1 R1 ∧ SMv w F w' F' := by
  have H := Pk.hid h
  have Hr := Pk.hid hr
  obtain ⟨y0, y1, y2⟩ := h.pc k hk
  obtain ⟨PK, hPK⟩ : ∃ PK, pb k = PK := ⟨_, rfl⟩
  have HPK := Pk.hid hPK
  rw [hPK] at y0 y1 y2 ⊢
  unfold ptr at y0 y1
  have hpl : PK < w.heap.size := lt_of_cell y0
  have Ho := Pk.hid ho
  have HB0 : Hid (∀ bk, Below w.heap.size w (w.alloc bk)) := fun bk => (Below.refl _ _).alloc (Nat.le_refl _) bk
  have hgl := h.glt
  clear h hr hPK ho y2
  unfold opK opKL
  go_enter Tryz.func8, Tryz.ntmps8
  go_wp2
  have HB1' := HB0.out (.cells (opK 1 o) 45)
  have HC1 : ∀ j : Nat, (w.alloc (.cells (opK 1 o) 45)).cell? ⟨w.heap.size, j, none⟩ = (opK 1 o)[j]? := fun j => cell_new _ _ _ j
  have hz1 : (w.alloc (.cells (opK 1 o) 45)).heap.size = w.heap.size + 1 := by simp
  generalize w.alloc (.cells (opK 1 o) 45) = w1 at *
  have HB1 : Hid (Below w.heap.size w w1) := HB1'
  have H1 : Hid (Sta w1 F K pb mb rb M R g n) := H.out.below HB1'
  have HZ : Hid (∀ i, F i w.heap.size = 0) := fun i => H.out.hi i _ (Nat.le_refl _)
  have z0 : w1.cell? ⟨PK, 0, none⟩ = some (.pointer (some ⟨mb k, 0, none⟩)) := (HB1.out.cell (p := ⟨PK, 0, none⟩) hpl).trans y0
  have b1 : w1.cell? ⟨w.heap.size, 1, none⟩ = some (.int .i64 o.n) := HC1 1
  obtain ⟨hp1, hp2⟩ := Hr.out.addS o.n
  have HREL := Pk.hid hp2
  have Hp1 := Pk.hid hp1
  clear HB1' HC1 y0 y1 hp1 hp2
  refine wp_region_noPanic ?_
  refine wp_region_held_drew (S := Two ⟨PK, 0, none⟩ ⟨w.heap.size, 1, none⟩ (.pointer (some ⟨mb k, 0, none⟩)) (.int .i64 o.n)) (by kernel_rfl) ⟨z0, b1⟩ (fun hHeld => ?_)
  refine tkH 0 ?_ hHeld ?_ ?_; rotate_left
  · ((intro W hSw; obtain ⟨hS0, hS1⟩ := hSw; go_simp) <;> with_reducible rfl)
  refine tkH 1 ?_ hHeld ?_ ?_; rotate_left
  · ((intro W hSw; obtain ⟨hS0, hS1⟩ := hSw; go_simp) <;> with_reducible rfl)
  refine tkH 2 ?_ hHeld ?_ ?_; rotate_left
  · ((intro W hSw; obtain ⟨hS0, hS1⟩ := hSw; go_simp) <;> with_reducible rfl)
  refine tkH 3 ?_ hHeld ?_ ?_; rotate_left
  · ((intro W hSw; obtain ⟨hS0, hS1⟩ := hSw; go_simp) <;> with_reducible rfl)
  refine tkH 4 ?_ hHeld ?_ ?_; rotate_left
  · ((intro W hSw; obtain ⟨hS0, hS1⟩ := hSw; go_simp) <;> with_reducible rfl)
  refine tkH 5 ?_ hHeld ?_ ?_; rotate_left
  · ((intro W hSw; obtain ⟨hS0, hS1⟩ := hSw; go_simp) <;> with_reducible rfl)
  refine wpAnyH_ready (rs := [6]) (by kernel_rfl) (by simp) ?_
  refine AllReadyH.cons rfl (fun K' hK => ?_) AllReadyH.nil
  go_simp
  refine (st_addS (by first | exact H1.out | exact H1.out.below (Below.refl _ _).drew) hk Hr.out o.n).mono ?_
  rintro e w2 ⟨rfl, F2, s1, s2⟩
  rw [Hp1.out]
  have H2 := Pk.hid s1
  have V2 : Hid (SMv w1 F w2 F2) := by first | exact s2 | exact (SMv.below (Below.refl _ _).drew).trans s2
  have b2 : w2.cell? ⟨w.heap.size, 1, none⟩ = some (.int .i64 o.n) := V2.out.cell b1 HZ.out
  have p2 : w2.cell? ⟨PK, 0, none⟩ = some (.pointer (some ⟨mb k, 0, none⟩)) := by have h1 := (s1.pc k hk).1; rw [HPK.out] at h1; exact h1
  have p3 : w2.cell? ⟨PK, 1, none⟩ = some (.pointer (some ⟨rb k, 0, none⟩)) := by have h1 := (s1.pc k hk).2.1; rw [HPK.out] at h1; exact h1
  have HZ2 : Hid (∀ i, F2 i w.heap.size = 0) := V2.out.1 _ (by omega) HZ.out
  clear s1 s2
  go_simp
  refine hK.out _ _ ⟨p2, b2⟩ (fun hHeld => ?_)
  clear hK K' z0 b1
  try simp only [Act.put]
  try simp only [List.getElem_toArray]
  try simp only [List.getElem_cons_succ]
  try simp only [List.getElem_cons_zero]
  try simp only [List.setIfInBounds_toArray]
  try simp only [List.set_cons_succ]
  try simp only [List.set_cons_zero]
  refine tkH 7 ?_ hHeld ?_ ?_; rotate_left
  · ((intro W hSw; obtain ⟨hS0, hS1⟩ := hSw; go_simp) <;> with_reducible rfl)
  refine wpAnyH_done (by kernel_rfl) ?_ _
  refine NoPanic.normal ?_
  generalize (addSM (M k) o.n).1 = M1 at *
  clear hHeld p2
  go_wp2
  refine wp_region_noPanic ?_
  refine wp_region_held_drew (S := Two ⟨PK, 1, none⟩ ⟨w.heap.size, 1, none⟩ (.pointer (some ⟨rb k, 0, none⟩)) (.int .i64 o.n)) (by kernel_rfl) ⟨p3, b2⟩ (fun hHeld => ?_)
  refine tkH 0 ?_ hHeld ?_ ?_; rotate_left
  · ((intro W hSw; obtain ⟨hS0, hS1⟩ := hSw; go_simp) <;> with_reducible rfl)
  refine tkH 2 ?_ hHeld ?_ ?_; rotate_left
  · ((intro W hSw; obtain ⟨hS0, hS1⟩ := hSw; go_simp) <;> with_reducible rfl)
  refine tkH 3 ?_ hHeld ?_ ?_; rotate_left
  · ((intro W hSw; obtain ⟨hS0, hS1⟩ := hSw; go_simp) <;> with_reducible rfl)
  refine tkH 4 ?_ hHeld ?_ ?_; rotate_left
  · ((intro W hSw; obtain ⟨hS0, hS1⟩ := hSw; go_simp) <;> with_reducible rfl)
  refine tkH 5 ?_ hHeld ?_ ?_; rotate_left
  · ((intro W hSw; obtain ⟨hS0, hS1⟩ := hSw; go_simp) <;> with_reducible rfl)
  refine tkH 6 ?_ hHeld ?_ ?_; rotate_left
  · ((intro W hSw; obtain ⟨hS0, hS1⟩ := hSw; go_simp) <;> with_reducible rfl)
  refine tkH 7 ?_ hHeld ?_ ?_; rotate_left
  · ((intro W hSw; obtain ⟨hS0, hS1⟩ := hSw; go_simp) <;> with_reducible rfl)
  refine wpAnyH_ready (rs := [1]) (by kernel_rfl) (by simp) ?_
  refine AllReadyH.cons rfl (fun K' hK => ?_) AllReadyH.nil
  go_simp
  refine (errNum_any _ _).mono ?_
  rintro e w3 ⟨rfl, hw3⟩
  rw [hw3]
  clear hw3
  go_simp
  refine hK.out _ _ hHeld (fun hHeld => ?_)
  clear hK K'
  try simp only [Act.put]
  try simp only [List.getElem_toArray]
  try simp only [List.getElem_cons_succ]
  try simp only [List.getElem_cons_zero]
  try simp only [List.setIfInBounds_toArray]
  try simp only [List.set_cons_succ]
  try simp only [List.set_cons_zero]
  refine wpAnyH_ready (rs := [8]) (by kernel_rfl) (by simp) ?_
  refine AllReadyH.cons rfl (fun K' hK => ?_) AllReadyH.nil
  go_simp
  refine (st_refAddS (by first | exact H2.out | exact H2.out.below (Below.refl _ _).drew) hk o.n).mono ?_
  rintro e w4 ⟨rfl, F4, s1, s2⟩
  have V4 : Hid (SMv w2 F2 w4 F4) := by first | exact s2 | exact (SMv.below (Below.refl _ _).drew).trans s2
  have b4 : w4.cell? ⟨w.heap.size, 1, none⟩ = some (.int .i64 o.n) := V4.out.cell b2 HZ2.out
  have p4 : w4.cell? ⟨PK, 1, none⟩ = some (.pointer (some ⟨rb k, 0, none⟩)) := by have h1 := (s1.pc k hk).2.1; rw [HPK.out] at h1; exact h1
  have HE : Hid (∃ F' M1 R1, Sta w4 F' K pb mb rb (upd M k M1) (upd R k R1) g (n + 2) ∧ Rel (q + 1) M1 R1 ∧ SMv w F w4 F') := ⟨F4, _, _, s1.mono (by omega), HREL.out.mono (by omega), ((SMv.below HB1.out).trans V2.out).trans V4.out⟩
  clear s1 s2
  go_simp
  refine hK.out _ _ ⟨p4, b4⟩ (fun hHeld => ?_)
  clear hK K'
  try simp only [Act.put]
  try simp only [List.getElem_toArray]
  try simp only [List.getElem_cons_succ]
  try simp only [List.getElem_cons_zero]
  try simp only [List.setIfInBounds_toArray]
  try simp only [List.set_cons_succ]
  try simp only [List.set_cons_zero]
  refine tkH 9 ?_ hHeld ?_ ?_; rotate_left
  · ((intro W hSw; obtain ⟨hS0, hS1⟩ := hSw; go_simp) <;> with_reducible rfl)
  refine tkH 10 ?_ hHeld ?_ ?_; rotate_left
  · ((intro W hSw; obtain ⟨hS0, hS1⟩ := hSw; go_simp) <;> with_reducible rfl)
  refine wpAnyH_done (by kernel_rfl) ?_ _
  refine NoPanic.normal ?_
  clear hHeld p3 b2 p4 b4
  go_wp2
  go_ret
  exact ⟨rfl, HE.out⟩

end Go.Proofs.YtdjhhnolcafkiaaGreat

/- A whole struct by value: load and store, one step each. -/
namespace Go.Proofs.YtdjhhnolcafkiaaGreat
open Go.RowKit
namespace Pk
section
variable {ops : Array Oper} {rest : List Oper} {o : Oper} {a : Act} {w : World} {Q : Exit → Act → World → Prop}
theorem wpList_load_list (hgd : o.guard = none) (t : TypeId) (p : Operand) (ho : o.op = .load t p) (ad : Addr) (hp : a.eval p = .pointer (some ad)) (cs : List Value) (ha : (isAgg t).run Tryz.prog w = .ok true w) (hs : (sizeOf t).run Tryz.prog w = .ok cs.length w) (hc : ∀ j v, cs[j]? = some v → w.cell? (ad.add j) = some v)
    (h : wpList Tryz.prog ops Q rest (a.put o.dst (.agg cs.toArray)) w) : wpList Tryz.prog ops Q (o :: rest) a w := by
  refine wpList_plain hgd fun K hK => ?_
  have hr : (Instr.loadAt t (.pointer (some ad))).run Tryz.prog w = .ok (.agg cs.toArray) w := by
    simp only [Instr.loadAt, Instr.sureAddr, loadVar, Sem.run_bind, Sem.run_pure, Result.andThen, ha, hs, if_true, run_loadCells_list w ad cs hc]
  unfold Oper.wp execOp
  simp only [ho, Sem.run_bind, Sem.run_pure, Result.andThen_ok, hp, hr]
  exact hK _ _ h
theorem wpList_store_new (hgd : o.guard = none) (t : TypeId) (p x : Operand) (ho : o.op = .store t p x) (w0 : World) (c c' : Array Value) (hw : w = w0.alloc (.cells c t)) (hp : a.eval p = .pointer (some ⟨w0.heap.size, 0, none⟩)) (hx : a.eval x = .agg c') (hi : (Tryz.prog.info? t).map (·.size) = some c'.size) (hcs : c.size = c'.size) (h1 : c'.all (·.oneCell') = true)
    (h : wpList Tryz.prog ops Q rest (a.put o.dst undef) (w0.alloc (.cells c' t))) : wpList Tryz.prog ops Q (o :: rest) a w := by
  subst hw
  refine wpList_plain hgd fun K hK => ?_
  have hr := run_storeAt_new (P := Tryz.prog) w0 t c c' hi hcs h1
  unfold Oper.wp execOp
  simp only [ho, Sem.run_bind, Sem.run_pure, Result.andThen_ok, hp, hx, hr]
  exact hK _ _ h
end
end Pk
end Go.Proofs.YtdjhhnolcafkiaaGreat

/- step: a want is taken away. -/
namespace Go.Proofs.YtdjhhnolcafkiaaGreat
open Go.RowKit Pk Rl

set_option maxRecDepth 20000 in
set_option maxHeartbeats 4000000 in
theorem step3_any {w : World} {F : Nat → Nat → Nat} {K : Nat} {pb mb rb : Nat → Nat} {M : Nat → Md} {R : Nat → Rm} {g n q k : Nat} (o : OpD) (A : Nat) (h : Sta w F K pb mb rb M R g n) (hk : k < K) (hr : Rel q (M k) (R k)) (_hq : q ≤ 1999999) (_hn : n ≤ 8000000) (ho : OpOk A w o) (_hA : A ≤ w.heap.size) :
    Calls Tryz.prog 8 #[.pointer (some ⟨pb k, 0, none⟩), .pointer (some ⟨g, 0, none⟩), .agg (opK 3 o)] w fun e w' => e = .returned (.bool true) ∧ ∃ F' M1 R1, Sta w' F' K pb mb rb (upd M k M1) (upd R k R1) g (n + 2) ∧ Rel (q + 1) M1 R1 ∧ SMv w F w' F' := by
  have H := Pk.hid h
  have Hr := Pk.hid hr
  obtain ⟨y0, y1, y2⟩ := h.pc k hk
  obtain ⟨PK, hPK⟩ : ∃ PK, pb k = PK := ⟨_, rfl⟩
  have HPK := Pk.hid hPK
  rw [hPK] at y0 y1 y2 ⊢
  unfold ptr at y0 y1
  have hpl : PK < w.heap.size := lt_of_cell y0
  have Ho := Pk.hid ho
  have HB0 : Hid (∀ bk, Below w.heap.size w (w.alloc bk)) := fun bk => (Below.refl _ _).alloc (Nat.le_refl _) bk
  have hgl := h.glt
  clear h hr hPK ho y2
  unfold opK opKL
  go_enter Tryz.func8, Tryz.ntmps8
  go_wp2
  have HB1' := HB0.out (.cells (opK 3 o) 45)
  have HC1 : ∀ j : Nat, (w.alloc (.cells (opK 3 o) 45)).cell? ⟨w.heap.size, j, none⟩ = (opK 3 o)[j]? := fun j => cell_new _ _ _ j
  have hz1 : (w.alloc (.cells (opK 3 o) 45)).heap.size = w.heap.size + 1 := by simp
  generalize w.alloc (.cells (opK 3 o) 45) = w1 at *
  have HB1 : Hid (Below w.heap.size w w1) := HB1'
  have H1 : Hid (Sta w1 F K pb mb rb M R g n) := H.out.below HB1'
  have HZ : Hid (∀ i, F i w.heap.size = 0) := fun i => H.out.hi i _ (Nat.le_refl _)
  have z0 : w1.cell? ⟨PK, 0, none⟩ = some (.pointer (some ⟨mb k, 0, none⟩)) := (HB1.out.cell (p := ⟨PK, 0, none⟩) hpl).trans y0
  have b1 : w1.cell? ⟨w.heap.size, 1, none⟩ = some (.int .i64 o.n) := HC1 1
  obtain ⟨hp1, hp2⟩ := Hr.out.drop o.n
  have HREL := Pk.hid hp2
  have Hp1 := Pk.hid hp1
  clear HB1' HC1 y0 y1 hp1 hp2
  refine wp_region_noPanic ?_
  refine wp_region_held_drew (S := Two ⟨PK, 0, none⟩ ⟨w.heap.size, 1, none⟩ (.pointer (some ⟨mb k, 0, none⟩)) (.int .i64 o.n)) (by kernel_rfl) ⟨z0, b1⟩ (fun hHeld => ?_)
  refine tkH 0 ?_ hHeld ?_ ?_; rotate_left
  · ((intro W hSw; obtain ⟨hS0, hS1⟩ := hSw; go_simp) <;> with_reducible rfl)
  refine tkH 1 ?_ hHeld ?_ ?_; rotate_left
  · ((intro W hSw; obtain ⟨hS0, hS1⟩ := hSw; go_simp) <;> with_reducible rfl)
  refine tkH 2 ?_ hHeld ?_ ?_; rotate_left
  · ((intro W hSw; obtain ⟨hS0, hS1⟩ := hSw; go_simp) <;> with_reducible rfl)
  refine tkH 3 ?_ hHeld ?_ ?_; rotate_left
  · ((intro W hSw; obtain ⟨hS0, hS1⟩ := hSw; go_simp) <;> with_reducible rfl)
  refine tkH 4 ?_ hHeld ?_ ?_; rotate_left
  · ((intro W hSw; obtain ⟨hS0, hS1⟩ := hSw; go_simp) <;> with_reducible rfl)
  refine tkH 5 ?_ hHeld ?_ ?_; rotate_left
  · ((intro W hSw; obtain ⟨hS0, hS1⟩ := hSw; go_simp) <;> with_reducible rfl)
  refine wpAnyH_ready (rs := [6]) (by kernel_rfl) (by simp) ?_
  refine AllReadyH.cons rfl (fun K' hK => ?_) AllReadyH.nil
  go_simp
  refine (st_drop (by first | exact H1.out | exact H1.out.below (Below.refl _ _).drew) hk Hr.out o.n).mono ?_
  rintro e w2 ⟨rfl, F2, s1, s2⟩
  rw [Hp1.out]
  have H2 := Pk.hid s1
  have V2 : Hid (SMv w1 F w2 F2) := by first | exact s2 | exact (SMv.below (Below.refl _ _).drew).trans s2
  have b2 : w2.cell? ⟨w.heap.size, 1, none⟩ = some (.int .i64 o.n) := V2.out.cell b1 HZ.out
  have p2 : w2.cell? ⟨PK, 0, none⟩ = some (.pointer (some ⟨mb k, 0, none⟩)) := by have h1 := (s1.pc k hk).1; rw [HPK.out] at h1; exact h1
  have p3 : w2.cell? ⟨PK, 1, none⟩ = some (.pointer (some ⟨rb k, 0, none⟩)) := by have h1 := (s1.pc k hk).2.1; rw [HPK.out] at h1; exact h1
  have HZ2 : Hid (∀ i, F2 i w.heap.size = 0) := V2.out.1 _ (by omega) HZ.out
  clear s1 s2
  go_simp
  refine hK.out _ _ ⟨p2, b2⟩ (fun hHeld => ?_)
  clear hK K' z0 b1
  try simp only [Act.put]
  try simp only [List.getElem_toArray]
  try simp only [List.getElem_cons_succ]
  try simp only [List.getElem_cons_zero]
  try simp only [List.setIfInBounds_toArray]
  try simp only [List.set_cons_succ]
  try simp only [List.set_cons_zero]
  refine tkH 7 ?_ hHeld ?_ ?_; rotate_left
  · ((intro W hSw; obtain ⟨hS0, hS1⟩ := hSw; go_simp) <;> with_reducible rfl)
  refine wpAnyH_done (by kernel_rfl) ?_ _
  refine NoPanic.normal ?_
  generalize (dropM (M k) o.n).1 = M1 at *
  clear hHeld p2
  go_wp2
  refine wp_region_noPanic ?_
  refine wp_region_held_drew (S := Two ⟨PK, 1, none⟩ ⟨w.heap.size, 1, none⟩ (.pointer (some ⟨rb k, 0, none⟩)) (.int .i64 o.n)) (by kernel_rfl) ⟨p3, b2⟩ (fun hHeld => ?_)
  refine tkH 0 ?_ hHeld ?_ ?_; rotate_left
  · ((intro W hSw; obtain ⟨hS0, hS1⟩ := hSw; go_simp) <;> with_reducible rfl)
  refine tkH 2 ?_ hHeld ?_ ?_; rotate_left
  · ((intro W hSw; obtain ⟨hS0, hS1⟩ := hSw; go_simp) <;> with_reducible rfl)
  refine tkH 3 ?_ hHeld ?_ ?_; rotate_left
  · ((intro W hSw; obtain ⟨hS0, hS1⟩ := hSw; go_simp) <;> with_reducible rfl)
  refine tkH 4 ?_ hHeld ?_ ?_; rotate_left
  · ((intro W hSw; obtain ⟨hS0, hS1⟩ := hSw; go_simp) <;> with_reducible rfl)
  refine tkH 5 ?_ hHeld ?_ ?_; rotate_left
  · ((intro W hSw; obtain ⟨hS0, hS1⟩ := hSw; go_simp) <;> with_reducible rfl)
  refine tkH 6 ?_ hHeld ?_ ?_; rotate_left
  · ((intro W hSw; obtain ⟨hS0, hS1⟩ := hSw; go_simp) <;> with_reducible rfl)
  refine tkH 7 ?_ hHeld ?_ ?_; rotate_left
  · ((intro W hSw; obtain ⟨hS0, hS1⟩ := hSw; go_simp) <;> with_reducible rfl)
  refine wpAnyH_ready (rs := [1]) (by kernel_rfl) (by simp) ?_
  refine AllReadyH.cons rfl (fun K' hK => ?_) AllReadyH.nil
  go_simp
  refine (errNum_any _ _).mono ?_
  rintro e w3 ⟨rfl, hw3⟩
  rw [hw3]
  clear hw3
  go_simp
  refine hK.out _ _ hHeld (fun hHeld => ?_)
  clear hK K'
  try simp only [Act.put]
  try simp only [List.getElem_toArray]
  try simp only [List.getElem_cons_succ]
  try simp only [List.getElem_cons_zero]
  try simp only [List.setIfInBounds_toArray]
  try simp only [List.set_cons_succ]
  try simp only [List.set_cons_zero]
  refine wpAnyH_ready (rs := [8]) (by kernel_rfl) (by simp) ?_
  refine AllReadyH.cons rfl (fun K' hK => ?_) AllReadyH.nil
  go_simp
  refine (st_refDrop (by first | exact H2.out | exact H2.out.below (Below.refl _ _).drew) hk o.n).mono ?_
  rintro e w4 ⟨rfl, F4, s1, s2⟩
  have V4 : Hid (SMv w2 F2 w4 F4) := by first | exact s2 | exact (SMv.below (Below.refl _ _).drew).trans s2
  have b4 : w4.cell? ⟨w.heap.size, 1, none⟩ = some (.int .i64 o.n) := V4.out.cell b2 HZ2.out
  have p4 : w4.cell? ⟨PK, 1, none⟩ = some (.pointer (some ⟨rb k, 0, none⟩)) := by have h1 := (s1.pc k hk).2.1; rw [HPK.out] at h1; exact h1
  have HE : Hid (∃ F' M1 R1, Sta w4 F' K pb mb rb (upd M k M1) (upd R k R1) g (n + 2) ∧ Rel (q + 1) M1 R1 ∧ SMv w F w4 F') := ⟨F4, _, _, s1.mono (by omega), HREL.out.mono (by omega), ((SMv.below HB1.out).trans V2.out).trans V4.out⟩
  clear s1 s2
  go_simp
  refine hK.out _ _ ⟨p4, b4⟩ (fun hHeld => ?_)
  clear hK K'
  try simp only [Act.put]
  try simp only [List.getElem_toArray]
  try simp only [List.getElem_cons_succ]
  try simp only [List.getElem_cons_zero]
  try simp only [List.setIfInBounds_toArray]
  try simp only [List.set_cons_succ]
  try simp only [List.set_cons_zero]
  refine tkH 9 ?_ hHeld ?_ ?_; rotate_left
  · ((intro W hSw; obtain ⟨hS0, hS1⟩ := hSw; go_simp) <;> with_reducible rfl)
  refine tkH 10 ?_ hHeld ?_ ?_; rotate_left
  · ((intro W hSw; obtain ⟨hS0, hS1⟩ := hSw; go_simp) <;> with_reducible rfl)
  refine wpAnyH_done (by kernel_rfl) ?_ _
  refine NoPanic.normal ?_
  clear hHeld p3 b2 p4 b4
  go_wp2
  go_ret
  exact ⟨rfl, HE.out⟩

end Go.Proofs.YtdjhhnolcafkiaaGreat

/- step: a want. -/
namespace Go.Proofs.YtdjhhnolcafkiaaGreat
open Go.RowKit Pk Rl

set_option maxRecDepth 20000 in
set_option maxHeartbeats 4000000 in
theorem step2_any {w : World} {F : Nat → Nat → Nat} {K : Nat} {pb mb rb : Nat → Nat} {M : Nat → Md} {R : Nat → Rm} {g n q k : Nat} (o : OpD) (A : Nat) (h : Sta w F K pb mb rb M R g n) (hk : k < K) (hr : Rel q (M k) (R k)) (hq : q ≤ 1999999) (_hn : n ≤ 8000000) (ho : OpOk A w o) (_hA : A ≤ w.heap.size) :
    Calls Tryz.prog 8 #[.pointer (some ⟨pb k, 0, none⟩), .pointer (some ⟨g, 0, none⟩), .agg (opK 2 o)] w fun e w' => e = .returned (.bool true) ∧ ∃ F' M1 R1, Sta w' F' K pb mb rb (upd M k M1) (upd R k R1) g (n + 2) ∧ Rel (q + 1) M1 R1 ∧ SMv w F w' F' := by
  have H := Pk.hid h
  have Hr := Pk.hid hr
  obtain ⟨y0, y1, y2⟩ := h.pc k hk
  obtain ⟨PK, hPK⟩ : ∃ PK, pb k = PK := ⟨_, rfl⟩
  have HPK := Pk.hid hPK
  rw [hPK] at y0 y1 y2 ⊢
  unfold ptr at y0 y1
  have hpl : PK < w.heap.size := lt_of_cell y0
  have Ho := Pk.hid ho
  have HB0 : Hid (∀ bk, Below w.heap.size w (w.alloc bk)) := fun bk => (Below.refl _ _).alloc (Nat.le_refl _) bk
  have hgl := h.glt
  clear h hr hPK ho y2
  unfold opK opKL
  go_enter Tryz.func8, Tryz.ntmps8
  go_wp2
  have HB1' := HB0.out (.cells (opK 2 o) 45)
  have HC1 : ∀ j : Nat, (w.alloc (.cells (opK 2 o) 45)).cell? ⟨w.heap.size, j, none⟩ = (opK 2 o)[j]? := fun j => cell_new _ _ _ j
  have hz1 : (w.alloc (.cells (opK 2 o) 45)).heap.size = w.heap.size + 1 := by simp
  generalize w.alloc (.cells (opK 2 o) 45) = w1 at *
  have HB1 : Hid (Below w.heap.size w w1) := HB1'
  have H1 : Hid (Sta w1 F K pb mb rb M R g n) := H.out.below HB1'
  have HZ : Hid (∀ i, F i w.heap.size = 0) := fun i => H.out.hi i _ (Nat.le_refl _)
  have z0 : w1.cell? ⟨PK, 0, none⟩ = some (.pointer (some ⟨mb k, 0, none⟩)) := (HB1.out.cell (p := ⟨PK, 0, none⟩) hpl).trans y0
  have HC : Hid (∀ (j : Nat) (u : Value), (opK 2 o)[j]? = some u → w1.cell? ⟨w.heap.size, j, none⟩ = some u) := fun j u hu => (HC1 j).trans hu
  have hS1 : StS PK 0 w.heap.size (.pointer (some ⟨mb k, 0, none⟩)) o.n o.pl w1 := ⟨z0, HC.out 1 _ rfl, HC.out 3 _ rfl, HC.out 4 _ rfl, HC.out 5 _ rfl, HC.out 6 _ rfl, HC.out 7 _ rfl, HC.out 8 _ rfl⟩
  obtain ⟨hp1, hp2⟩ := Hr.out.addW o.n o.pl
  have HREL := Pk.hid hp2
  have Hp1 := Pk.hid hp1
  clear HB1' HC1 y0 y1 hp1 hp2 z0
  refine wp_region_noPanic ?_
  refine wp_region_held_drew (S := StS PK 0 w.heap.size (.pointer (some ⟨mb k, 0, none⟩)) o.n o.pl) (by kernel_rfl) hS1 (fun hHeld => ?_)
  refine tkH 0 ?_ hHeld ?_ ?_; rotate_left
  · ((intro W hSw; obtain ⟨hS0, hS1, hS2, hS3, hS4, hS5, hS6, hS7⟩ := hSw; go_simp) <;> with_reducible rfl)
  refine tkH 1 ?_ hHeld ?_ ?_; rotate_left
  · ((intro W hSw; obtain ⟨hS0, hS1, hS2, hS3, hS4, hS5, hS6, hS7⟩ := hSw; go_simp) <;> with_reducible rfl)
  refine tkH 2 ?_ hHeld ?_ ?_; rotate_left
  · ((intro W hSw; obtain ⟨hS0, hS1, hS2, hS3, hS4, hS5, hS6, hS7⟩ := hSw; go_simp) <;> with_reducible rfl)
  refine tkH 3 ?_ hHeld ?_ ?_; rotate_left
  · ((intro W hSw; obtain ⟨hS0, hS1, hS2, hS3, hS4, hS5, hS6, hS7⟩ := hSw; go_simp) <;> with_reducible rfl)
  refine tkH 4 ?_ hHeld ?_ ?_; rotate_left
  · ((intro W hSw; obtain ⟨hS0, hS1, hS2, hS3, hS4, hS5, hS6, hS7⟩ := hSw; go_simp) <;> with_reducible rfl)
  refine tkH 5 ?_ hHeld ?_ ?_; rotate_left
  · ((intro W hSw; obtain ⟨hS0, hS1, hS2, hS3, hS4, hS5, hS6, hS7⟩ := hSw; go_simp) <;> with_reducible rfl)
  refine tkH 6 ?_ hHeld ?_ ?_; rotate_left
  · ((intro W hSw; obtain ⟨hS0, hS1, hS2, hS3, hS4, hS5, hS6, hS7⟩ := hSw; go_simp) <;> with_reducible rfl)
  refine tkH 7 ?_ hHeld ?_ ?_; rotate_left
  · ((intro W hSw; obtain ⟨hS0, hS1, hS2, hS3, hS4, hS5, hS6, hS7⟩ := hSw; go_simp) <;> with_reducible rfl)
  refine wpAnyH_ready (rs := [8]) (by kernel_rfl) (by simp) ?_
  refine AllReadyH.cons rfl (fun K' hK => ?_) AllReadyH.nil
  go_simp
  refine (st_addW (by first | exact H1.out | exact H1.out.below (Below.refl _ _).drew) hk Hr.out (by omega) o.n o.pl).mono ?_
  rintro e w2 ⟨rfl, F2, s1, s2⟩
  rw [Hp1.out]
  have H2 := Pk.hid s1
  have V2 : Hid (SMv w1 F w2 F2) := by first | exact s2 | exact (SMv.below (Below.refl _ _).drew).trans s2
  have b2 : ∀ (j : Nat) (u : Value), (opK 2 o)[j]? = some u → w2.cell? ⟨w.heap.size, j, none⟩ = some u := fun j u hu => V2.out.cell (HC.out j u hu) HZ.out
  have HB2 := Pk.hid b2
  have p2 : w2.cell? ⟨PK, 0, none⟩ = some (.pointer (some ⟨mb k, 0, none⟩)) := by have h1 := (s1.pc k hk).1; rw [HPK.out] at h1; exact h1
  have p3 : w2.cell? ⟨PK, 1, none⟩ = some (.pointer (some ⟨rb k, 0, none⟩)) := by have h1 := (s1.pc k hk).2.1; rw [HPK.out] at h1; exact h1
  have HZ2 : Hid (∀ i, F2 i w.heap.size = 0) := V2.out.1 _ (by omega) HZ.out
  have hS2 : StS PK 0 w.heap.size (.pointer (some ⟨mb k, 0, none⟩)) o.n o.pl w2 := ⟨p2, b2 1 _ rfl, b2 3 _ rfl, b2 4 _ rfl, b2 5 _ rfl, b2 6 _ rfl, b2 7 _ rfl, b2 8 _ rfl⟩
  clear s1 s2 b2 p2
  go_simp
  refine hK.out _ _ hS2 (fun hHeld => ?_)
  clear hK K' hS1 hS2
  try simp only [Act.put]
  try simp only [List.getElem_toArray]
  try simp only [List.getElem_cons_succ]
  try simp only [List.getElem_cons_zero]
  try simp only [List.setIfInBounds_toArray]
  try simp only [List.set_cons_succ]
  try simp only [List.set_cons_zero]
  refine tkH 9 ?_ hHeld ?_ ?_; rotate_left
  · ((intro W hSw; obtain ⟨hS0, hS1, hS2, hS3, hS4, hS5, hS6, hS7⟩ := hSw; go_simp) <;> with_reducible rfl)
  refine tkH 10 ?_ hHeld ?_ ?_; rotate_left
  · ((intro W hSw; obtain ⟨hS0, hS1, hS2, hS3, hS4, hS5, hS6, hS7⟩ := hSw; go_simp) <;> with_reducible rfl)
  refine tkH 11 ?_ hHeld ?_ ?_; rotate_left
  · ((intro W hSw; obtain ⟨hS0, hS1, hS2, hS3, hS4, hS5, hS6, hS7⟩ := hSw; go_simp) <;> with_reducible rfl)
  refine tkH 12 ?_ hHeld ?_ ?_; rotate_left
  · ((intro W hSw; obtain ⟨hS0, hS1, hS2, hS3, hS4, hS5, hS6, hS7⟩ := hSw; go_simp) <;> with_reducible rfl)
  refine tkH 13 ?_ hHeld ?_ ?_; rotate_left
  · ((intro W hSw; obtain ⟨hS0, hS1, hS2, hS3, hS4, hS5, hS6, hS7⟩ := hSw; go_simp) <;> with_reducible rfl)
  refine wpAnyH_done (by kernel_rfl) ?_ _
  refine NoPanic.normal ?_
  generalize (addWM (M k) o.n o.pl).1 = M1 at *
  clear hHeld
  have hS3 : StS PK 1 w.heap.size (.pointer (some ⟨rb k, 0, none⟩)) o.n o.pl w2 := ⟨p3, HB2.out 1 _ rfl, HB2.out 3 _ rfl, HB2.out 4 _ rfl, HB2.out 5 _ rfl, HB2.out 6 _ rfl, HB2.out 7 _ rfl, HB2.out 8 _ rfl⟩
  clear p3
  go_wp2
  refine wp_region_noPanic ?_
  refine wp_region_held_drew (S := StS PK 1 w.heap.size (.pointer (some ⟨rb k, 0, none⟩)) o.n o.pl) (by kernel_rfl) hS3 (fun hHeld => ?_)
  refine tkH 0 ?_ hHeld ?_ ?_; rotate_left
  · ((intro W hSw; obtain ⟨hS0, hS1, hS2, hS3, hS4, hS5, hS6, hS7⟩ := hSw; go_simp) <;> with_reducible rfl)
  refine tkH 1 ?_ hHeld ?_ ?_; rotate_left
  · ((intro W hSw; obtain ⟨hS0, hS1, hS2, hS3, hS4, hS5, hS6, hS7⟩ := hSw; go_simp) <;> with_reducible rfl)
  refine tkH 2 ?_ hHeld ?_ ?_; rotate_left
  · ((intro W hSw; obtain ⟨hS0, hS1, hS2, hS3, hS4, hS5, hS6, hS7⟩ := hSw; go_simp) <;> with_reducible rfl)
  refine tkH 3 ?_ hHeld ?_ ?_; rotate_left
  · ((intro W hSw; obtain ⟨hS0, hS1, hS2, hS3, hS4, hS5, hS6, hS7⟩ := hSw; go_simp) <;> with_reducible rfl)
  refine tkH 4 ?_ hHeld ?_ ?_; rotate_left
  · ((intro W hSw; obtain ⟨hS0, hS1, hS2, hS3, hS4, hS5, hS6, hS7⟩ := hSw; go_simp) <;> with_reducible rfl)
  refine tkH 5 ?_ hHeld ?_ ?_; rotate_left
  · ((intro W hSw; obtain ⟨hS0, hS1, hS2, hS3, hS4, hS5, hS6, hS7⟩ := hSw; go_simp) <;> with_reducible rfl)
  refine tkH 6 ?_ hHeld ?_ ?_; rotate_left
  · ((intro W hSw; obtain ⟨hS0, hS1, hS2, hS3, hS4, hS5, hS6, hS7⟩ := hSw; go_simp) <;> with_reducible rfl)
  refine tkH 7 ?_ hHeld ?_ ?_; rotate_left
  · ((intro W hSw; obtain ⟨hS0, hS1, hS2, hS3, hS4, hS5, hS6, hS7⟩ := hSw; go_simp) <;> with_reducible rfl)
  refine wpAnyH_ready (rs := [8]) (by kernel_rfl) (by simp) ?_
  refine AllReadyH.cons rfl (fun K' hK => ?_) AllReadyH.nil
  go_simp
  refine (st_refAddW (by first | exact H2.out | exact H2.out.below (Below.refl _ _).drew) hk Hr.out (by omega) o.n o.pl).mono ?_
  rintro e w4 ⟨rfl, F4, s1, s2⟩
  have V4 : Hid (SMv w2 F2 w4 F4) := by first | exact s2 | exact (SMv.below (Below.refl _ _).drew).trans s2
  have b2 : ∀ (j : Nat) (u : Value), (opK 2 o)[j]? = some u → w4.cell? ⟨w.heap.size, j, none⟩ = some u := fun j u hu => V4.out.cell (HB2.out j u hu) HZ2.out
  have p2 : w4.cell? ⟨PK, 1, none⟩ = some (.pointer (some ⟨rb k, 0, none⟩)) := by have h1 := (s1.pc k hk).2.1; rw [HPK.out] at h1; exact h1
  have hS4 : StS PK 1 w.heap.size (.pointer (some ⟨rb k, 0, none⟩)) o.n o.pl w4 := ⟨p2, b2 1 _ rfl, b2 3 _ rfl, b2 4 _ rfl, b2 5 _ rfl, b2 6 _ rfl, b2 7 _ rfl, b2 8 _ rfl⟩
  have HE : Hid (∃ F' M1 R1, Sta w4 F' K pb mb rb (upd M k M1) (upd R k R1) g (n + 2) ∧ Rel (q + 1) M1 R1 ∧ SMv w F w4 F') := ⟨F4, _, _, s1.mono (by omega), HREL.out, ((SMv.below HB1.out).trans V2.out).trans V4.out⟩
  clear s1 s2 b2 p2
  go_simp
  refine hK.out _ _ hS4 (fun hHeld => ?_)
  clear hK K'
  try simp only [Act.put]
  try simp only [List.getElem_toArray]
  try simp only [List.getElem_cons_succ]
  try simp only [List.getElem_cons_zero]
  try simp only [List.setIfInBounds_toArray]
  try simp only [List.set_cons_succ]
  try simp only [List.set_cons_zero]
  refine tkH 9 ?_ hHeld ?_ ?_; rotate_left
  · ((intro W hSw; obtain ⟨hS0, hS1, hS2, hS3, hS4, hS5, hS6, hS7⟩ := hSw; go_simp) <;> with_reducible rfl)
  refine tkH 10 ?_ hHeld ?_ ?_; rotate_left
  · ((intro W hSw; obtain ⟨hS0, hS1, hS2, hS3, hS4, hS5, hS6, hS7⟩ := hSw; go_simp) <;> with_reducible rfl)
  refine tkH 11 ?_ hHeld ?_ ?_; rotate_left
  · ((intro W hSw; obtain ⟨hS0, hS1, hS2, hS3, hS4, hS5, hS6, hS7⟩ := hSw; go_simp) <;> with_reducible rfl)
  refine tkH 12 ?_ hHeld ?_ ?_; rotate_left
  · ((intro W hSw; obtain ⟨hS0, hS1, hS2, hS3, hS4, hS5, hS6, hS7⟩ := hSw; go_simp) <;> with_reducible rfl)
  refine tkH 13 ?_ hHeld ?_ ?_; rotate_left
  · ((intro W hSw; obtain ⟨hS0, hS1, hS2, hS3, hS4, hS5, hS6, hS7⟩ := hSw; go_simp) <;> with_reducible rfl)
  refine wpAnyH_done (by kernel_rfl) ?_ _
  refine NoPanic.normal ?_
  clear hHeld hS3 hS4
  go_wp2_with fail
  refine (errNum_any _ _).mono ?_
  rintro e w5 ⟨rfl, hw5⟩
  rw [hw5]
  clear hw5
  go_wp2
  go_ret
  exact ⟨rfl, HE.out⟩

end Go.Proofs.YtdjhhnolcafkiaaGreat

/- step: Missing, Look, nothing. -/
namespace Go.Proofs.YtdjhhnolcafkiaaGreat
open Go.RowKit Pk Rl

set_option maxRecDepth 20000 in
set_option maxHeartbeats 4000000 in
theorem step5_any {w : World} {F : Nat → Nat → Nat} {K : Nat} {pb mb rb : Nat → Nat} {M : Nat → Md} {R : Nat → Rm} {g n q k : Nat} (o : OpD) (A : Nat) (h : Sta w F K pb mb rb M R g n) (hk : k < K) (hr : Rel q (M k) (R k)) (_hq : q ≤ 1999999) (hn : n ≤ 8000000) (ho : OpOk A w o) (_hA : A ≤ w.heap.size) :
    Calls Tryz.prog 8 #[.pointer (some ⟨pb k, 0, none⟩), .pointer (some ⟨g, 0, none⟩), .agg (opK 5 o)] w fun e w' => e = .returned (.bool true) ∧ ∃ F' M1 R1, Sta w' F' K pb mb rb (upd M k M1) (upd R k R1) g (n + 2) ∧ Rel (q + 1) M1 R1 ∧ SMv w F w' F' := by
  have H := Pk.hid h
  have Hr := Pk.hid hr
  obtain ⟨y0, y1, y2⟩ := h.pc k hk
  obtain ⟨PK, hPK⟩ : ∃ PK, pb k = PK := ⟨_, rfl⟩
  have HPK := Pk.hid hPK
  rw [hPK] at y0 y1 y2 ⊢
  unfold ptr at y0 y1
  have hpl : PK < w.heap.size := lt_of_cell y0
  have Ho := Pk.hid ho
  have HB0 : Hid (∀ bk, Below w.heap.size w (w.alloc bk)) := fun bk => (Below.refl _ _).alloc (Nat.le_refl _) bk
  have hgl := h.glt
  clear h hr hPK ho y2
  unfold opK opKL
  go_enter Tryz.func8, Tryz.ntmps8
  go_wp2_with fail
  have HB1' := HB0.out (.cells (opK 5 o) 45)
  have HC1 : ∀ j : Nat, (w.alloc (.cells (opK 5 o) 45)).cell? ⟨w.heap.size, j, none⟩ = (opK 5 o)[j]? := fun j => cell_new _ _ _ j
  have hz1 : (w.alloc (.cells (opK 5 o) 45)).heap.size = w.heap.size + 1 := by simp
  generalize w.alloc (.cells (opK 5 o) 45) = w1 at *
  have HB1 : Hid (Below w.heap.size w w1) := HB1'
  have H1 : Hid (Sta w1 F K pb mb rb M R g n) := H.out.below HB1'
  have HZ : Hid (∀ i, F i w.heap.size = 0) := fun i => H.out.hi i _ (Nat.le_refl _)
  have z0 : w1.cell? ⟨PK, 0, none⟩ = some (.pointer (some ⟨mb k, 0, none⟩)) := (HB1.out.cell (p := ⟨PK, 0, none⟩) hpl).trans y0
  rw [← HPK.out]
  refine (lmissing_any H1.out hk Hr.out (by omega) o.n).mono ?_
  rintro e w2 ⟨rfl, F2, s1, s2⟩
  have HE : Hid (∃ F' M1 R1, Sta w2 F' K pb mb rb (upd M k M1) (upd R k R1) g (n + 2) ∧ Rel (q + 1) M1 R1 ∧ SMv w F w2 F') := ⟨F2, M k, R k, by rw [upd_same, upd_same]; exact s1, Hr.out.mono (Nat.le_succ _), (SMv.below HB1.out).trans s2⟩
  clear s1 s2 HB1' HC1 y0 y1 z0
  go_wp2
  go_ret
  exact ⟨rfl, HE.out⟩

set_option maxRecDepth 20000 in
set_option maxHeartbeats 4000000 in
theorem step6_any {w : World} {F : Nat → Nat → Nat} {K : Nat} {pb mb rb : Nat → Nat} {M : Nat → Md} {R : Nat → Rm} {g n q k : Nat} (o : OpD) (A : Nat) (h : Sta w F K pb mb rb M R g n) (hk : k < K) (hr : Rel q (M k) (R k)) (_hq : q ≤ 1999999) (_hn : n ≤ 8000000) (ho : OpOk A w o) (_hA : A ≤ w.heap.size) :
    Calls Tryz.prog 8 #[.pointer (some ⟨pb k, 0, none⟩), .pointer (some ⟨g, 0, none⟩), .agg (opK 6 o)] w fun e w' => e = .returned (.bool true) ∧ ∃ F' M1 R1, Sta w' F' K pb mb rb (upd M k M1) (upd R k R1) g (n + 2) ∧ Rel (q + 1) M1 R1 ∧ SMv w F w' F' := by
  have H := Pk.hid h
  have Hr := Pk.hid hr
  obtain ⟨y0, y1, y2⟩ := h.pc k hk
  obtain ⟨PK, hPK⟩ : ∃ PK, pb k = PK := ⟨_, rfl⟩
  have HPK := Pk.hid hPK
  rw [hPK] at y0 y1 y2 ⊢
  unfold ptr at y0 y1
  have hpl : PK < w.heap.size := lt_of_cell y0
  have Ho := Pk.hid ho
  have HB0 : Hid (∀ bk, Below w.heap.size w (w.alloc bk)) := fun bk => (Below.refl _ _).alloc (Nat.le_refl _) bk
  have hgl := h.glt
  clear h hr hPK ho y2
  unfold opK opKL
  have hp75 : Tryz.prog.stoodInHeld 49 = false := by kernel_rfl
  have hm75 : Tryz.prog.eqGuardType Tryz.prog.depth 49 = false := by kernel_rfl
  go_enter Tryz.func8, Tryz.ntmps8
  go_wp2
  have HB1' := HB0.out (.cells (opK 6 o) 45)
  have HC1 : ∀ j : Nat, (w.alloc (.cells (opK 6 o) 45)).cell? ⟨w.heap.size, j, none⟩ = (opK 6 o)[j]? := fun j => cell_new _ _ _ j
  have hz1 : (w.alloc (.cells (opK 6 o) 45)).heap.size = w.heap.size + 1 := by simp
  generalize w.alloc (.cells (opK 6 o) 45) = w1 at *
  have HB1 : Hid (Below w.heap.size w w1) := HB1'
  have H1 : Hid (Sta w1 F K pb mb rb M R g n) := H.out.below HB1'
  have HZ : Hid (∀ i, F i w.heap.size = 0) := fun i => H.out.hi i _ (Nat.le_refl _)
  have z0 : w1.cell? ⟨PK, 0, none⟩ = some (.pointer (some ⟨mb k, 0, none⟩)) := (HB1.out.cell (p := ⟨PK, 0, none⟩) hpl).trans y0
  have hS1 : LkS PK (mb k) (rb k) (R k).s w1 := by have h1 := H1.out.lk hk; rw [HPK.out] at h1; exact h1
  have Hs : Hid ((M k).s = (R k).s) := Hr.out.s
  clear HB1' HC1 y0 y1 z0
  refine wp_region_noPanic ?_
  refine wp_region_held_drew (S := LkS PK (mb k) (rb k) (R k).s) (by kernel_rfl) hS1 (fun hHeld => ?_)
  refine tkH 0 ?_ hHeld ?_ ?_; rotate_left
  · ((intro W hSw; obtain ⟨hS0, hS1, hS2, hS3, hS4, hS5, hS6, hS7, hS8, hS9, hS10, hS11, hS12⟩ := hSw; go_simp) <;> with_reducible rfl)
  refine tkH 1 ?_ hHeld ?_ ?_; rotate_left
  · ((intro W hSw; obtain ⟨hS0, hS1, hS2, hS3, hS4, hS5, hS6, hS7, hS8, hS9, hS10, hS11, hS12⟩ := hSw; go_simp) <;> with_reducible rfl)
  refine tkH 2 ?_ hHeld ?_ ?_; rotate_left
  · ((intro W hSw; obtain ⟨hS0, hS1, hS2, hS3, hS4, hS5, hS6, hS7, hS8, hS9, hS10, hS11, hS12⟩ := hSw; go_simp) <;> with_reducible rfl)
  refine tkH 3 ?_ hHeld ?_ ?_; rotate_left
  · ((intro W hSw; obtain ⟨hS0, hS1, hS2, hS3, hS4, hS5, hS6, hS7, hS8, hS9, hS10, hS11, hS12⟩ := hSw; go_simp) <;> with_reducible rfl)
  refine tkH 5 ?_ hHeld ?_ ?_; rotate_left
  · ((intro W hSw; obtain ⟨hS0, hS1, hS2, hS3, hS4, hS5, hS6, hS7, hS8, hS9, hS10, hS11, hS12⟩ := hSw; go_simp) <;> with_reducible rfl)
  refine tkH 6 ?_ hHeld ?_ ?_; rotate_left
  · ((intro W hSw; obtain ⟨hS0, hS1, hS2, hS3, hS4, hS5, hS6, hS7, hS8, hS9, hS10, hS11, hS12⟩ := hSw; go_simp) <;> with_reducible rfl)
  refine tkH 7 ?_ hHeld ?_ ?_; rotate_left
  · ((intro W hSw; obtain ⟨hS0, hS1, hS2, hS3, hS4, hS5, hS6, hS7, hS8, hS9, hS10, hS11, hS12⟩ := hSw; go_simp) <;> with_reducible rfl)
  refine tkH 8 ?_ hHeld ?_ ?_; rotate_left
  · ((intro W hSw; obtain ⟨hS0, hS1, hS2, hS3, hS4, hS5, hS6, hS7, hS8, hS9, hS10, hS11, hS12⟩ := hSw; go_simp) <;> with_reducible rfl)
  refine tkH 9 ?_ hHeld ?_ ?_; rotate_left
  · ((intro W hSw; obtain ⟨hS0, hS1, hS2, hS3, hS4, hS5, hS6, hS7, hS8, hS9, hS10, hS11, hS12⟩ := hSw; go_simp) <;> with_reducible rfl)
  refine tkH 10 ?_ hHeld ?_ ?_; rotate_left
  · ((intro W hSw; obtain ⟨hS0, hS1, hS2, hS3, hS4, hS5, hS6, hS7, hS8, hS9, hS10, hS11, hS12⟩ := hSw; go_simp) <;> with_reducible rfl)
  refine tkH 11 ?_ hHeld ?_ ?_; rotate_left
  · ((intro W hSw; obtain ⟨hS0, hS1, hS2, hS3, hS4, hS5, hS6, hS7, hS8, hS9, hS10, hS11, hS12⟩ := hSw; go_simp) <;> with_reducible rfl)
  refine wpAnyH_ready (rs := [4]) (by kernel_rfl) (by simp) ?_
  refine AllReadyH.cons rfl (fun K' hK => ?_) AllReadyH.nil
  go_simp
  refine (st_look (by first | exact H1.out | exact H1.out.below (Below.refl _ _).drew) hk).mono ?_
  rintro e w2 ⟨rfl, hb2⟩
  have hB2 : Below w1.heap.size w1 w2 := by first | exact hb2 | exact (Below.refl _ _).drew.trans (hb2.mono (by simp))
  have H2 : Hid (Sta w2 F K pb mb rb M R g n) := H1.out.below hB2
  have hS2 : LkS PK (mb k) (rb k) (R k).s w2 := by have h1 := H2.out.lk hk; rw [HPK.out] at h1; exact h1
  have HE : Hid (∃ F' M1 R1, Sta w2 F' K pb mb rb (upd M k M1) (upd R k R1) g (n + 2) ∧ Rel (q + 1) M1 R1 ∧ SMv w F w2 F') := ⟨F, M k, R k, by rw [upd_same, upd_same]; exact H2.out.mono (by omega), Hr.out.mono (Nat.le_succ _), (SMv.below HB1.out).trans (SMv.below hB2)⟩
  rw [Hs.out]
  unfold sttA
  clear hb2 hB2
  go_simp
  refine hK.out _ _ hS2 (fun hHeld => ?_)
  clear hK K' hS1
  try simp only [Act.put]
  try simp only [List.getElem_toArray]
  try simp only [List.getElem_cons_succ]
  try simp only [List.getElem_cons_zero]
  try simp only [List.setIfInBounds_toArray]
  try simp only [List.set_cons_succ]
  try simp only [List.set_cons_zero]
  refine tkH 12 ?_ hHeld ?_ ?_; rotate_left
  · ((intro W hSw; obtain ⟨hS0, hS1, hS2, hS3, hS4, hS5, hS6, hS7, hS8, hS9, hS10, hS11, hS12⟩ := hSw; go_simp) <;> with_reducible rfl)
  refine tkH 13 ?_ hHeld ?_ ?_; rotate_left
  · ((intro W hSw; obtain ⟨hS0, hS1, hS2, hS3, hS4, hS5, hS6, hS7, hS8, hS9, hS10, hS11, hS12⟩ := hSw; go_simp) <;> with_reducible rfl)
  refine wpAnyH_done (by kernel_rfl) ?_ _
  refine NoPanic.normal ?_
  clear hHeld hS2
  go_wp2
  go_ret
  exact ⟨rfl, HE.out⟩

set_option maxRecDepth 20000 in
set_option maxHeartbeats 4000000 in
theorem step0_any {w : World} {F : Nat → Nat → Nat} {K : Nat} {pb mb rb : Nat → Nat} {M : Nat → Md} {R : Nat → Rm} {g n q k : Nat} (o : OpD) (A : Nat) (h : Sta w F K pb mb rb M R g n) (hk : k < K) (hr : Rel q (M k) (R k)) (_hq : q ≤ 1999999) (_hn : n ≤ 8000000) (ho : OpOk A w o) (_hA : A ≤ w.heap.size) (h0 : o.kind ≤ 0) :
    Calls Tryz.prog 8 #[.pointer (some ⟨pb k, 0, none⟩), .pointer (some ⟨g, 0, none⟩), .agg (opK o.kind o)] w fun e w' => e = .returned (.bool true) ∧ ∃ F' M1 R1, Sta w' F' K pb mb rb (upd M k M1) (upd R k R1) g (n + 2) ∧ Rel (q + 1) M1 R1 ∧ SMv w F w' F' := by
  have H := Pk.hid h
  have Hr := Pk.hid hr
  obtain ⟨y0, y1, y2⟩ := h.pc k hk
  obtain ⟨PK, hPK⟩ : ∃ PK, pb k = PK := ⟨_, rfl⟩
  have HPK := Pk.hid hPK
  rw [hPK] at y0 y1 y2 ⊢
  unfold ptr at y0 y1
  have hpl : PK < w.heap.size := lt_of_cell y0
  have Ho := Pk.hid ho
  have HB0 : Hid (∀ bk, Below w.heap.size w (w.alloc bk)) := fun bk => (Below.refl _ _).alloc (Nat.le_refl _) bk
  have hgl := h.glt
  clear h hr hPK ho y2
  unfold opK opKL
  have e1 : (o.kind == 1) = false := by rw [beq_eq_false_iff_ne]; omega
  have e2 : (o.kind == 2) = false := by rw [beq_eq_false_iff_ne]; omega
  have e3 : (o.kind == 3) = false := by rw [beq_eq_false_iff_ne]; omega
  have e4 : (o.kind == 4) = false := by rw [beq_eq_false_iff_ne]; omega
  have e5 : (o.kind == 5) = false := by rw [beq_eq_false_iff_ne]; omega
  have e6 : (o.kind == 6) = false := by rw [beq_eq_false_iff_ne]; omega
  have e8 : (o.kind == 8) = false := by rw [beq_eq_false_iff_ne]; omega
  have e9 : (o.kind == 9) = false := by rw [beq_eq_false_iff_ne]; omega
  have e10 : (o.kind == 10) = false := by rw [beq_eq_false_iff_ne]; omega
  have e11 : (o.kind == 11) = false := by rw [beq_eq_false_iff_ne]; omega
  have HE : Hid (∀ bk, ∃ F' M1 R1, Sta (w.alloc bk) F' K pb mb rb (upd M k M1) (upd R k R1) g (n + 2) ∧ Rel (q + 1) M1 R1 ∧ SMv w F (w.alloc bk) F') := fun bk => ⟨F, M k, R k, by rw [upd_same, upd_same]; exact (H.out.below (HB0.out bk)).mono (by omega), Hr.out.mono (Nat.le_succ _), SMv.below (HB0.out bk)⟩
  clear h0
  go_enter Tryz.func8, Tryz.ntmps8
  go_wp2
  go_ret
  exact ⟨rfl, HE.out _⟩

end Go.Proofs.YtdjhhnolcafkiaaGreat

/- step: a packet. -/
namespace Go.Proofs.YtdjhhnolcafkiaaGreat
open Go.RowKit Pk Rl

set_option maxRecDepth 20000 in
set_option maxHeartbeats 4000000 in
theorem step4_any {w : World} {F : Nat → Nat → Nat} {K : Nat} {pb mb rb : Nat → Nat} {M : Nat → Md} {R : Nat → Rm} {g n q k : Nat} (o : OpD) (A : Nat) (h : Sta w F K pb mb rb M R g n) (hk : k < K) (hr : Rel q (M k) (R k)) (hq : q ≤ 1999999) (hn : n ≤ 8000000) (ho : OpOk A w o) (hA : A ≤ w.heap.size) :
    Calls Tryz.prog 8 #[.pointer (some ⟨pb k, 0, none⟩), .pointer (some ⟨g, 0, none⟩), .agg (opK 4 o)] w fun e w' => e = .returned (.bool true) ∧ ∃ F' M1 R1, Sta w' F' K pb mb rb (upd M k M1) (upd R k R1) g (n + 2) ∧ Rel (q + 1) M1 R1 ∧ SMv w F w' F' := by
  have H := Pk.hid h
  have Hr := Pk.hid hr
  obtain ⟨y0, y1, y2⟩ := h.pc k hk
  obtain ⟨PK, hPK⟩ : ∃ PK, pb k = PK := ⟨_, rfl⟩
  have HPK := Pk.hid hPK
  rw [hPK] at y0 y1 y2 ⊢
  unfold ptr at y0 y1
  have hpl : PK < w.heap.size := lt_of_cell y0
  have Ho := Pk.hid ho
  have HB0 : Hid (∀ bk, Below w.heap.size w (w.alloc bk)) := fun bk => (Below.refl _ _).alloc (Nat.le_refl _) bk
  have hgl := h.glt
  clear h hr hPK ho y2
  unfold opK opKL
  go_enter Tryz.func8, Tryz.ntmps8
  go_wp2_with (refine wpList_load_list rfl 45 (.tmp 5) rfl ⟨w.heap.size, 0, none⟩ rfl (opKL 4 o) (by kernel_rfl) (by kernel_rfl) (cells_new _ (opKL 4 o) _) ?_; refine stop_here ?_)
  refine hid_in ?_
  have HB1' := HB0.out (.cells (opK 4 o) 45)
  have HC1 : ∀ j : Nat, (w.alloc (.cells (opK 4 o) 45)).cell? ⟨w.heap.size, j, none⟩ = (opK 4 o)[j]? := fun j => cell_new _ _ _ j
  have hz1 : (w.alloc (.cells (opK 4 o) 45)).heap.size = w.heap.size + 1 := by simp
  generalize w.alloc (.cells (opK 4 o) 45) = w1 at *
  have HB1 : Hid (Below w.heap.size w w1) := HB1'
  have H1 : Hid (Sta w1 F K pb mb rb M R g n) := H.out.below HB1'
  have HZ : Hid (∀ i, F i w.heap.size = 0) := fun i => H.out.hi i _ (Nat.le_refl _)
  have z0 : w1.cell? ⟨PK, 0, none⟩ = some (.pointer (some ⟨mb k, 0, none⟩)) := (HB1.out.cell (p := ⟨PK, 0, none⟩) hpl).trans y0
  clear HB1' HC1 y0 y1 z0
  go_wp2_with fail
  rw [← HPK.out]
  have HOk : Hid (OpOk A w1 o) := ⟨Ho.out.tx, Ho.out.en, Ho.out.py, Ho.out.cl, Ho.out.cv.carry (HB1.out.mono hA)⟩
  refine (movesT_any o A H1.out hk Hr.out hq (by omega) HOk.out (by omega)).mono ?_
  rintro e w2 ⟨rfl, F2, M1, R1, s1, s2, s3⟩
  have HE : Hid (∃ F' M1 R1, Sta w2 F' K pb mb rb (upd M k M1) (upd R k R1) g (n + 2) ∧ Rel (q + 1) M1 R1 ∧ SMv w F w2 F') := ⟨F2, M1, R1, s1.mono (by omega), s2, (SMv.below HB1.out).trans s3⟩
  clear s1 s2 s3
  go_wp2
  go_ret
  exact ⟨rfl, HE.out⟩

end Go.Proofs.YtdjhhnolcafkiaaGreat

/- A new book. -/
namespace Go.Proofs.YtdjhhnolcafkiaaGreat
open Go.RowKit
namespace Pk

theorem Pr.nil (W : World) (g : Nat) (ρ : Nat → Nat) (ra rm : Nat) (te tm : TypeId) (cells : Value → List Value) : Pr W g ρ ra rm te tm cells (.slice none 0 0) (.slice none 0 0) [] [] :=
  ⟨World.ownsRow_nil _ _ _ _, World.ownsRow_nil _ _ _ _, fun b hb => (by cases hb), fun b hb => (by cases hb), rfl, fun i u m hu => (by simp at hu)⟩

/-- only the book itself has a role -/
def newRole (g b : Nat) : Nat := if b = g then 1 else 0

theorem bkN_new (w : World) (t : TypeId) : BkN (w.alloc (.cells #[.slice none 0 0, .slice none 0 0, .slice none 0 0, .slice none 0 0, .slice none 0 0, .slice none 0 0, .int .i64 0] t)) w.heap.size (newRole w.heap.size) (.slice none 0 0) (.slice none 0 0) (.slice none 0 0) (.slice none 0 0) (.slice none 0 0) (.slice none 0 0) [] [] [] [] [] [] 0 := by
  refine ⟨cell_new _ _ _ 0, cell_new _ _ _ 1, cell_new _ _ _ 2, cell_new _ _ _ 3, cell_new _ _ _ 4, cell_new _ _ _ 5, cell_new _ _ _ 6, fun o => frozen_new _ _ _ o, fun b => ?_, fun b hb => ?_, Pr.nil .., Pr.nil .., Pr.nil ..⟩
  · unfold newRole
    split <;> simp_all
  · unfold newRole
    rw [if_neg (by simp at hb; omega)]

end Pk
end Go.Proofs.YtdjhhnolcafkiaaGreat
