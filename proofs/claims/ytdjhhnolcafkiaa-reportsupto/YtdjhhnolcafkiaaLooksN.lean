/- The book looks: all lists hold what their owner wrote (texts, numbers, askings). -/
import Derived.Test.YtdjhhnolcafkiaaBookQ
import Derived.Test.YtdjhhnolcafkiaaLooks
namespace Go.Proofs.Ytdjhhnolcafkiaa
open Go.RowKit
open Pk

namespace Pk
theorem Chg.drewN {T : Nat → Prop} {a b : World} (h : Chg T a b) (n : Nat) : Chg T a (b.drewN n) := h.trans (Chg.ofBelow (T := T) (below_drewN (Below.refl _ _) n)) (fun _ _ e => e)
/-- one element of a list that the book holds -/
theorem Pr.at {W : World} {g : Nat} {ρ : Nat → Nat} {ra rm : Nat} {te tm : TypeId} {cells : Value → List Value} {al ak : Option Addr} {cl ck : Nat} {L M : List Value} (h : Pr W g ρ ra rm te tm cells (.slice al L.length cl) (.slice ak M.length ck) L M) (i : Nat) (hi : i < L.length) :
    ∃ gl gk n ao cap m, al = some ⟨gl, 0, none⟩ ∧ ak = some ⟨gk, 0, none⟩ ∧ M[i]? = some m ∧ W.cell? ⟨gl, i, none⟩ = some (.slice ao n cap) ∧ W.cell? ⟨gk, i, none⟩ = some m ∧ n ≤ 10000 ∧
      ∀ k, k < n → ∃ b, ao = some ⟨b, 0, none⟩ ∧ ∀ j, j < (cells m).length → W.cell? ⟨b, k * (cells m).length + j, none⟩ = (cells m)[j]? := by
  have hm : i < M.length := by rw [← h.len]; exact hi
  obtain ⟨gl, rfl, c1⟩ := row_at h.rl i hi
  obtain ⟨gk, rfl, c2⟩ := row_at h.rk i hm
  obtain ⟨n, ao, cap, e, hn, hk⟩ := h.ent i L[i] M[i] (List.getElem?_eq_getElem hi) (List.getElem?_eq_getElem hm)
  refine ⟨gl, gk, n, ao, cap, M[i], rfl, rfl, List.getElem?_eq_getElem hm, ?_, c2.trans (List.getElem?_eq_getElem hm), hn, fun k hkn => ?_⟩
  · rw [c1, List.getElem?_eq_getElem hi, e]
  · obtain ⟨b, e2, _, _, h3⟩ := hk k hkn
    exact ⟨b, e2, h3⟩
end Pk

set_option maxRecDepth 20000 in
set_option maxHeartbeats 8000000 in
theorem looksN_any (g : Nat) (ρ : Nat → Nat) (tv tk nv nk av ak : Value) (TL NL AL : List Value) (TS : List ByteArray) (NS AS : List Int) (nx : Int) (w : World)
    (hB : BkN w g ρ tv tk nv nk av ak TL (TS.map Value.string) NL (NS.map (Value.int .i64)) AL (AS.map (Value.int .i64)) nx) (hT : TL.length ≤ 1000000000) (hN : NL.length ≤ 1000000000) (hA : AL.length ≤ 1000000000) :
    Calls Try.prog 13 #[.pointer (some ⟨g, 0, none⟩)] w fun e w' => e = .returned (.bool true) ∧ Chg (fun _ => False) w w' := by
  obtain ⟨at1, ct1, rfl⟩ := row_shape hB.tp.rl
  obtain ⟨at2, ct2, rfl⟩ := row_shape hB.tp.rk
  obtain ⟨an1, cn1, rfl⟩ := row_shape hB.np.rl
  obtain ⟨an2, cn2, rfl⟩ := row_shape hB.np.rk
  obtain ⟨aa1, ca1, rfl⟩ := row_shape hB.ap.rl
  obtain ⟨aa2, ca2, rfl⟩ := row_shape hB.ap.rk
  have HTP : Hid (Pr w g ρ 2 3 22 9 (fun m => [m]) (.slice at1 TL.length ct1) (.slice at2 (TS.map Value.string).length ct2) TL (TS.map Value.string)) := hB.tp
  have HNP : Hid (Pr w g ρ 4 5 27 3 (fun m => [m]) (.slice an1 NL.length cn1) (.slice an2 (NS.map (Value.int .i64)).length cn2) NL (NS.map (Value.int .i64))) := hB.np
  have HAP : Hid (Pr w g ρ 6 7 37 3 (fun m => [m, m, .slice none 0 0]) (.slice aa1 AL.length ca1) (.slice aa2 (AS.map (Value.int .i64)).length ca2) AL (AS.map (Value.int .i64))) := hB.ap
  have lt := hB.tp.len
  have ln := hB.np.len
  have la := hB.ap.len
  have c0 := hB.c0
  have c1 := hB.c1
  have c2 := hB.c2
  have c3 := hB.c3
  have c4 := hB.c4
  have c5 := hB.c5
  rw [← lt] at c1
  rw [← ln] at c3
  rw [← la] at c5
  have K0 : Hid (∀ W, Chg (fun _ => False) w W → W.cell? ⟨g, 0, none⟩ = some (.slice at1 TL.length ct1) ∧ W.cell? ⟨g, 1, none⟩ = some (.slice at2 TL.length ct2) ∧ W.cell? ⟨g, 2, none⟩ = some (.slice an1 NL.length cn1) ∧ W.cell? ⟨g, 3, none⟩ = some (.slice an2 NL.length cn2) ∧ W.cell? ⟨g, 4, none⟩ = some (.slice aa1 AL.length ca1) ∧ W.cell? ⟨g, 5, none⟩ = some (.slice aa2 AL.length ca2)) :=
    fun W hc => ⟨hc.cell c0 (fun e => e), hc.cell c1 (fun e => e), hc.cell c2 (fun e => e), hc.cell c3 (fun e => e), hc.cell c4 (fun e => e), hc.cell c5 (fun e => e)⟩
  clear hB lt ln la c0 c1 c2 c3 c4 c5
  obtain ⟨TN, hTN⟩ : ∃ n, TL.length = n := ⟨_, rfl⟩
  obtain ⟨NN, hNN⟩ : ∃ n, NL.length = n := ⟨_, rfl⟩
  obtain ⟨AN, hAN⟩ : ∃ n, AL.length = n := ⟨_, rfl⟩
  rw [hTN, hNN, hAN] at K0
  rw [hTN] at hT
  rw [hNN] at hN
  rw [hAN] at hA
  have HTN : Hid (TL.length = TN) := hTN
  have HNN : Hid (NL.length = NN) := hNN
  have HAN : Hid (AL.length = AN) := hAN
  clear hTN hNN hAN
  obtain ⟨z0, _, _, _, _, _⟩ := K0.out w (Chg.refl _ _)
  go_enter Try.func13, Try.ntmps13
  go_wp2
  go_loopg [3] TN (fun gk s3 wr => ∃ i : Nat, i ≤ TN ∧ gk = TN - i ∧ s3 = .int .i64 i ∧ Chg (fun _ => False) w wr)
  case atStart => exact ⟨0, Nat.zero_le _, rfl, rfl, Chg.refl _ _⟩
  case round =>
    obtain ⟨i, hi, rfl, rfl, hc⟩ := hrel
    have HC : Hid (Chg (fun _ => False) w wr) := hc
    obtain ⟨z0, z1, z2, z3, z4, z5⟩ := K0.out wr hc
    by_cases hlt : i < TN
    · have hlt' : (i : Int) < TN := by omega
      obtain ⟨gl, gk, n, ao, cap, m, rfl, rfl, hm, y1, y2, hn, hk⟩ := HTP.out.at i (by rw [HTN.out]; exact hlt)
      obtain ⟨s, rfl⟩ : ∃ s, m = .string s := by
        rw [List.getElem?_map] at hm
        cases h : TS[i]? with
        | none => rw [h] at hm; cases hm
        | some s => rw [h] at hm; exact ⟨s, (Option.some.inj hm).symm⟩
      have x1 := hc.cell y1 (fun e => e)
      have Hy1 : Hid (w.cell? ⟨gl, i, none⟩ = some (.slice ao n cap)) := y1
      have Hy2 : Hid (w.cell? ⟨gk, i, none⟩ = some (.string s)) := y2
      have Hk : Hid (∀ k, k < n → ∃ b, ao = some ⟨b, 0, none⟩ ∧ w.cell? ⟨b, k, none⟩ = some (.string s)) := fun k hkn => by
        obtain ⟨b, e, h⟩ := hk k hkn
        have := h 0 (by simp)
        simp at this
        exact ⟨b, e, this⟩
      clear hk hm y1 y2 hc
      go_wp2
      go_loopg [4] n (fun gj s4 wi => ∃ k : Nat, k ≤ n ∧ gj = n - k ∧ s4 = .int .i64 k ∧ Chg (fun _ => False) w wi)
      case atStart => exact ⟨0, Nat.zero_le _, rfl, rfl, HC.out⟩
      case round =>
        clear z0 z1 z2 z3 z4 z5 x1
        obtain ⟨k, hkn, rfl, rfl, hc⟩ := hrel
        have HC2 : Hid (Chg (fun _ => False) w _) := hc
        obtain ⟨z0, z1, z2, z3, z4, z5⟩ := K0.out _ hc
        have x1 := hc.cell Hy1.out (fun e => e)
        have x2 := hc.cell Hy2.out (fun e => e)
        by_cases hkl : k < n
        · have hkl' : (k : Int) < n := by omega
          obtain ⟨b, rfl, hb⟩ := Hk.out k hkl
          have x3 := hc.cell hb (fun e => e)
          clear hb hc
          go_wp2
          go_quiet (fail)
          go_wp2
          go_roundg (n - (k + 1))
          case measure => omega
          case rel => exact ⟨k + 1, by omega, rfl, by go_num, HC2.out.drewN _⟩
        · have hkl' : ¬ (k : Int) < n := by omega
          clear hc
          go_wp2
          go_roundg (TN - (i + 1))
          case measure => omega
          case rel => exact ⟨i + 1, by omega, rfl, by go_num, HC2.out⟩
    · have hlt' : ¬ (i : Int) < TN := by omega
      clear hc
      go_wp2
      clear z0 z1 z2 z3 z4 z5
      go_loopg [5] NN (fun gk s5 wr => ∃ i : Nat, i ≤ NN ∧ gk = NN - i ∧ s5 = .int .i64 i ∧ Chg (fun _ => False) w wr)
      case atStart => exact ⟨0, Nat.zero_le _, rfl, rfl, HC.out⟩
      case round =>
        clear HC
        obtain ⟨i, hi, rfl, rfl, hc⟩ := hrel
        have HC : Hid (Chg (fun _ => False) w _) := hc
        obtain ⟨z0, z1, z2, z3, z4, z5⟩ := K0.out _ hc
        by_cases hlt : i < NN
        · have hlt' : (i : Int) < NN := by omega
          obtain ⟨gl, gk, n, ao, cap, m, rfl, rfl, hm, y1, y2, hn, hk⟩ := HNP.out.at i (by rw [HNN.out]; exact hlt)
          obtain ⟨q, rfl⟩ : ∃ q, m = .int .i64 q := by
            rw [List.getElem?_map] at hm
            cases h : NS[i]? with
            | none => rw [h] at hm; cases hm
            | some s => rw [h] at hm; exact ⟨s, (Option.some.inj hm).symm⟩
          have x1 := hc.cell y1 (fun e => e)
          have Hy1 : Hid (w.cell? ⟨gl, i, none⟩ = some (.slice ao n cap)) := y1
          have Hy2 : Hid (w.cell? ⟨gk, i, none⟩ = some (.int .i64 q)) := y2
          have Hk : Hid (∀ k, k < n → ∃ b, ao = some ⟨b, 0, none⟩ ∧ w.cell? ⟨b, k, none⟩ = some (.int .i64 q)) := fun k hkn => by
            obtain ⟨b, e, h⟩ := hk k hkn
            have := h 0 (by simp)
            simp at this
            exact ⟨b, e, this⟩
          clear hk hm y1 y2 hc
          go_wp2
          go_loopg [6] n (fun gj s6 wi => ∃ k : Nat, k ≤ n ∧ gj = n - k ∧ s6 = .int .i64 k ∧ Chg (fun _ => False) w wi)
          case atStart => exact ⟨0, Nat.zero_le _, rfl, rfl, HC.out⟩
          case round =>
            clear z0 z1 z2 z3 z4 z5 x1
            obtain ⟨k, hkn, rfl, rfl, hc⟩ := hrel
            have HC2 : Hid (Chg (fun _ => False) w _) := hc
            obtain ⟨z0, z1, z2, z3, z4, z5⟩ := K0.out _ hc
            have x1 := hc.cell Hy1.out (fun e => e)
            have x2 := hc.cell Hy2.out (fun e => e)
            by_cases hkl : k < n
            · have hkl' : (k : Int) < n := by omega
              obtain ⟨b, rfl, hb⟩ := Hk.out k hkl
              have x3 := hc.cell hb (fun e => e)
              clear hb hc
              go_wp2
              go_quiet (fail)
              go_wp2
              go_roundg (n - (k + 1))
              case measure => omega
              case rel => exact ⟨k + 1, by omega, rfl, by go_num, HC2.out.drewN _⟩
            · have hkl' : ¬ (k : Int) < n := by omega
              clear hc
              go_wp2
              go_roundg (NN - (i + 1))
              case measure => omega
              case rel => exact ⟨i + 1, by omega, rfl, by go_num, HC2.out⟩
        · have hlt' : ¬ (i : Int) < NN := by omega
          clear hc
          go_wp2
          clear z0 z1 z2 z3 z4 z5
          go_loopg [7] AN (fun gk s7 wr => ∃ i : Nat, i ≤ AN ∧ gk = AN - i ∧ s7 = .int .i64 i ∧ Chg (fun _ => False) w wr)
          case atStart => exact ⟨0, Nat.zero_le _, rfl, rfl, HC.out⟩
          case round =>
            clear HC
            obtain ⟨i, hi, rfl, rfl, hc⟩ := hrel
            have HC : Hid (Chg (fun _ => False) w _) := hc
            obtain ⟨z0, z1, z2, z3, z4, z5⟩ := K0.out _ hc
            by_cases hlt : i < AN
            · have hlt' : (i : Int) < AN := by omega
              obtain ⟨gl, gk, n, ao, cap, m, rfl, rfl, hm, y1, y2, hn, hk⟩ := HAP.out.at i (by rw [HAN.out]; exact hlt)
              obtain ⟨q, rfl⟩ : ∃ q, m = .int .i64 q := by
                rw [List.getElem?_map] at hm
                cases h : AS[i]? with
                | none => rw [h] at hm; cases hm
                | some s => rw [h] at hm; exact ⟨s, (Option.some.inj hm).symm⟩
              have x1 := hc.cell y1 (fun e => e)
              have Hy1 : Hid (w.cell? ⟨gl, i, none⟩ = some (.slice ao n cap)) := y1
              have Hy2 : Hid (w.cell? ⟨gk, i, none⟩ = some (.int .i64 q)) := y2
              have Hk : Hid (∀ k, k < n → ∃ b, ao = some ⟨b, 0, none⟩ ∧ w.cell? ⟨b, k * 3, none⟩ = some (.int .i64 q) ∧ w.cell? ⟨b, k * 3 + 1, none⟩ = some (.int .i64 q) ∧ w.cell? ⟨b, k * 3 + 2, none⟩ = some (.slice none 0 0)) := fun k hkn => by
                obtain ⟨b, e, h⟩ := hk k hkn
                exact ⟨b, e, h 0 (by simp), h 1 (by simp), h 2 (by simp)⟩
              clear hk hm y1 y2 hc
              go_wp2
              go_loopg [8] n (fun gj s8 wi => ∃ k : Nat, k ≤ n ∧ gj = n - k ∧ s8 = .int .i64 k ∧ Chg (fun _ => False) w wi)
              case atStart => exact ⟨0, Nat.zero_le _, rfl, rfl, HC.out⟩
              case round =>
                clear z0 z1 z2 z3 z4 z5 x1
                obtain ⟨k, hkn, rfl, rfl, hc⟩ := hrel
                have HC2 : Hid (Chg (fun _ => False) w _) := hc
                obtain ⟨z0, z1, z2, z3, z4, z5⟩ := K0.out _ hc
                have x1 := hc.cell Hy1.out (fun e => e)
                have x2 := hc.cell Hy2.out (fun e => e)
                by_cases hkl : k < n
                · have hkl' : (k : Int) < n := by omega
                  obtain ⟨b, rfl, hb0, hb1, hb2⟩ := Hk.out k hkl
                  have x3 := hc.cell hb0 (fun e => e)
                  have x4 := hc.cell hb1 (fun e => e)
                  have x5 := hc.cell hb2 (fun e => e)
                  have v5 : ∀ o, (World.alloc _ o).cell? ⟨g, 5, none⟩ = _ := fun o => (World.cell?_alloc_lt _ _ _ (lt_of_cell z5)).trans z5
                  have v2 : ∀ o, (World.alloc _ o).cell? ⟨gk, i, none⟩ = _ := fun o => (World.cell?_alloc_lt _ _ _ (lt_of_cell x2)).trans x2
                  clear hb0 hb1 hb2 hc
                  go_wp2
                  go_quiet (fail)
                  go_wp2
                  go_roundg (n - (k + 1))
                  case measure => omega
                  case rel => exact ⟨k + 1, by omega, rfl, by go_num, (HC2.out.alloc _).drewN _⟩
                · have hkl' : ¬ (k : Int) < n := by omega
                  clear hc
                  go_wp2
                  go_roundg (AN - (i + 1))
                  case measure => omega
                  case rel => exact ⟨i + 1, by omega, rfl, by go_num, HC2.out⟩
            · have hlt' : ¬ (i : Int) < AN := by omega
              clear hc
              go_wp2
              go_ret
              exact ⟨rfl, HC.out⟩

end Go.Proofs.Ytdjhhnolcafkiaa
