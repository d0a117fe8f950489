/- menderlaw.Reports: the walk. -/
import Derived.Test.YtdjhhnolcafkiaaLawRep
import Derived.Test.YtdjhhnolcafkiaaLawAsk
import Derived.Test.YtdjhhnolcafkiaaLooksN
import Derived.Test.YtdjhhnolcafkiaaBkNew
namespace Go.Proofs.Ytdjhhnolcafkiaa
open Go.RowKit
namespace Pk

/-- an asking that came in lies at a place -/
structure AskAt (W : World) (b o : Nat) (se so : Int) (v : Value) : Prop where
  x0 : W.cell? ⟨b, o, none⟩ = some (.int .i64 se)
  x1 : W.cell? ⟨b, o + 1, none⟩ = some (.int .i64 so)
  x2 : W.cell? ⟨b, o + 2, none⟩ = some v
theorem AskAt.below {B : Nat} {W W' : World} {b o : Nat} {se so : Int} {v : Value} (h : AskAt W b o se so v) (hb : Below B W W') (hB : b < B) : AskAt W' b o se so v :=
  ⟨(hb.cell (p := ⟨b, o, none⟩) hB).trans h.x0, (hb.cell (p := ⟨b, o + 1, none⟩) hB).trans h.x1, (hb.cell (p := ⟨b, o + 2, none⟩) hB).trans h.x2⟩

end Pk
open Pk

set_option maxRecDepth 20000 in
set_option maxHeartbeats 8000000 in
theorem reports_walk (ta pa : Option Addr) (tn tc pn pc : Nat) (w : World)
    (hT : ∀ i, i < tn → ∃ b off s, ta = some ⟨b, off, none⟩ ∧ b < w.heap.size ∧ w.cell? ⟨b, off + i, none⟩ = some (.string s) ∧ s.size ≤ 1048576)
    (hP : ∀ i, i < pn → ∃ b off, pa = some ⟨b, off, none⟩ ∧ b < w.heap.size ∧ ∃ se so cv cl, AskAt w b (off + i * 3) se so cv ∧ IsInts w.heap.size w cv cl ∧ cl.length ≤ 1048576)
    (htn : tn ≤ 1048576) (hpn : pn ≤ 1048576) :
    Calls Try.prog 4 #[.slice ta tn tc, .slice pa pn pc] w fun e w' => e = .returned (.bool true) ∧ Below w.heap.size w w' := by
  have HT : Hid (∀ i, i < tn → ∃ b off s, ta = some ⟨b, off, none⟩ ∧ b < w.heap.size ∧ w.cell? ⟨b, off + i, none⟩ = some (.string s) ∧ s.size ≤ 1048576) := hT
  have HP : Hid (∀ i, i < pn → ∃ b off, pa = some ⟨b, off, none⟩ ∧ b < w.heap.size ∧ ∃ se so cv cl, AskAt w b (off + i * 3) se so cv ∧ IsInts w.heap.size w cv cl ∧ cl.length ≤ 1048576) := hP
  clear hT hP
  go_enter Try.func4, Try.ntmps4
  go_wp2_with fail
  have HN : Hid (∀ t, BkN (w.alloc (.cells #[.slice none 0 0, .slice none 0 0, .slice none 0 0, .slice none 0 0, .slice none 0 0, .slice none 0 0, .int .i64 0] t)) w.heap.size (newRole w.heap.size) (.slice none 0 0) (.slice none 0 0) (.slice none 0 0) (.slice none 0 0) (.slice none 0 0) (.slice none 0 0) [] [] [] [] [] [] 0) := bkN_new w
  refine (lawAsk_any 0 3 _ [5, 6, 21, 22] _ ?_ (by simp)).mono ?_
  · refine ⟨_, 4, rfl, fun j hj => ?_⟩
    simp at hj
    rcases (show j = 0 ∨ j = 1 ∨ j = 2 ∨ j = 3 by omega) with rfl | rfl | rfl | rfl
    · exact ⟨_, _, rfl, by simp, cell_newAt _ _ _ _ _ (by simp)⟩
    · exact ⟨_, _, rfl, by simp, cell_newAt _ _ _ _ _ (by simp)⟩
    · exact ⟨_, _, rfl, by simp, cell_newAt _ _ _ _ _ (by simp)⟩
    · exact ⟨_, _, rfl, by simp, cell_newAt _ _ _ _ _ (by simp)⟩
  rintro e w1 ⟨rfl, hb1⟩
  have HB1 : Hid (BkN w1 w.heap.size (newRole w.heap.size) (.slice none 0 0) (.slice none 0 0) (.slice none 0 0) (.slice none 0 0) (.slice none 0 0) (.slice none 0 0) [] [] [] [] [] [] 0) := ((HN.out _).chg (T := fun _ => False) ((Chg.refl _ _).alloc _) (fun _ h => h.elim)).chg (T := fun _ => False) (Chg.ofBelow hb1) (fun _ h => h.elim)
  have Hw1 : Hid (Below w.heap.size w w1) := (((Below.refl _ _).alloc (Nat.le_refl _) _).alloc (by simp) _).trans (hb1.mono (by simp; omega))
  clear hb1 HN
  go_wp2
  go_loopw [7] (fun s7 wr => ∃ (i : Nat) (ρ : Nat → Nat) (nv nk av ak : Value) (NL : List Value) (NS : List Int) (AL : List Value) (AS : List Int) (nx : Int), i ≤ tn ∧ s7 = .int .i64 i ∧ NL.length ≤ 744 * i ∧ AL.length = 8 * i ∧ 0 ≤ nx ∧ nx ≤ 188 * i ∧ BkN wr w.heap.size ρ (.slice none 0 0) (.slice none 0 0) nv nk av ak [] [] NL (NS.map (Value.int .i64)) AL (AS.map (Value.int .i64)) nx ∧ (∀ b, b < w.heap.size → ρ b = 0) ∧ Below w.heap.size w wr) (fun s7 _ => tn - (intOf s7).toNat)
  case atStart => exact ⟨0, _, _, _, _, _, [], [], [], [], 0, Nat.zero_le _, rfl, by simp, rfl, by omega, by omega, HB1.out, fun b hb => by unfold newRole; rw [if_neg (by omega)], Hw1.out⟩
  case round =>
    obtain ⟨i, ρ, nv, nk, av, ak, NL, NS, AL, AS, nx, hi, rfl, hNL, hAL, hx0, hx1, hBk, hρ, hbel⟩ := hrel
    have HBk : Hid (BkN wr w.heap.size ρ (.slice none 0 0) (.slice none 0 0) nv nk av ak [] [] NL (NS.map (Value.int .i64)) AL (AS.map (Value.int .i64)) nx) := hBk
    have Hbel : Hid (Below w.heap.size w wr) := hbel
    have Hρ : Hid (∀ b, b < w.heap.size → ρ b = 0) := hρ
    have HAL : Hid (AL.length = 8 * i) := hAL
    have hALb : AL.length ≤ 8 * i := by omega
    clear hBk hρ hAL
    by_cases hlt : i < tn
    · have hlt' : (i : Int) < tn := by omega
      obtain ⟨b, off, s, rfl, hb, hc, hs⟩ := HT.out i hlt
      have hcr : wr.cell? ⟨b, off + i, none⟩ = some (.string s) := (hbel.cell (p := ⟨b, off + i, none⟩) hb).trans hc
      have hws := hbel.size
      clear hbel hc
      go_wp2_with fail
      refine (lawRep_any _ ρ _ _ nv nk av ak [] [] NL AL NS AS nx s _ HBk.out (by unfold maxLen; omega) (by omega) (by omega) hx0 (by omega)).mono ?_
      rintro e w2 ⟨rfl, hC, ρ2, nv2, nk2, av2, ak2, NL2, NS2, AL2, AS2, n, hn, hB2, hn2, ha2, hr2⟩
      have Hbel2 : Hid (Below w.heap.size w w2) := Hbel.out.trans (hC.below hws (fun x hx => by
        rcases Nat.lt_or_ge x w.heap.size with h | h
        · exact absurd (Hρ.out x h) hx
        · exact h))
      have HB2 : Hid (BkN w2 w.heap.size ρ2 (.slice none 0 0) (.slice none 0 0) nv2 nk2 av2 ak2 [] [] NL2 (NS2.map (Value.int .i64)) AL2 (AS2.map (Value.int .i64)) (nx + 2 * n + 2)) := hB2
      have hl2 : NL2.length ≤ 744 * (i + 1) := by omega
      have Hl3 : Hid (AL2.length = 8 * (i + 1)) := by show _ = _; rw [ha2, HAL.out]; omega
      have hl3 : AL2.length ≤ 8 * (i + 1) := by have := Hl3.out; omega
      have Hρ2 : Hid (∀ b, b < w.heap.size → ρ2 b = 0) := fun b hb => by rw [hr2 b (by omega)]; exact Hρ.out b hb
      clear hC hB2 hn2 ha2 hcr hr2
      go_wp2_with fail
      refine (looksN_any _ ρ2 _ _ nv2 nk2 av2 ak2 [] NL2 AL2 [] NS2 AS2 _ _ HB2.out (by simp) (by omega) (by omega)).mono ?_
      rintro e w3 ⟨rfl, hC3⟩
      have HB3 : Hid (BkN w3 w.heap.size ρ2 (.slice none 0 0) (.slice none 0 0) nv2 nk2 av2 ak2 [] [] NL2 (NS2.map (Value.int .i64)) AL2 (AS2.map (Value.int .i64)) (nx + 2 * n + 2)) := HB2.out.chg (T := fun _ => False) hC3 (fun _ h => h.elim)
      have Hbel3 : Hid (Below w.heap.size w w3) := Hbel2.out.trans (hC3.below Hbel2.out.size (fun _ h => h.elim))
      clear hC3
      go_wp2
      go_roundw
      case rel => exact ⟨i + 1, ρ2, nv2, nk2, av2, ak2, NL2, NS2, AL2, AS2, _, by omega, by go_num, hl2, Hl3.out, by omega, by omega, HB3.out, Hρ2.out, Hbel3.out⟩
      case measure => simp [intOf]; omega
    · have hlt' : ¬ (i : Int) < tn := by omega
      clear hbel
      go_wp2
      go_loopw [10] (fun s10 wr => ∃ (i : Nat), i ≤ pn ∧ s10 = .int .i64 i ∧ Below w.heap.size w wr) (fun s10 _ => pn - (intOf s10).toNat)
      case atStart => exact ⟨0, Nat.zero_le _, rfl, Hbel.out⟩
      case round =>
        obtain ⟨j, hj, rfl, hbel⟩ := hrel
        have Hbj : Hid (Below w.heap.size w _) := hbel
        by_cases hjl : j < pn
        · have hjl' : (j : Int) < pn := by omega
          obtain ⟨b, off, rfl, hb, se, so, cv, cl, hA, hI, hl⟩ := HP.out j hjl
          obtain ⟨x0, x1, x2⟩ := hA.below hbel hb
          have HI : Hid (IsInts _ _ cv cl) := (hI.carry hbel).mono hbel.size
          obtain ⟨ac, cc, rfl, _⟩ := hI
          clear hA hbel
          go_wp2_with fail
          refine (lawAsk_any se so _ cl _ HI.out (by omega)).mono ?_
          rintro e w4 ⟨rfl, hb4⟩
          have Hb4 : Hid (Below w.heap.size w w4) := Hbj.out.trans (hb4.mono Hbj.out.size)
          clear hb4 x0 x1 x2
          go_wp2
          go_roundw
          case rel => exact ⟨j + 1, by omega, by go_num, Hb4.out⟩
          case measure => simp [intOf]; omega
        · have hjl' : ¬ (j : Int) < pn := by omega
          clear hbel
          go_wp2
          go_ret
          exact ⟨rfl, Hbj.out⟩

end Go.Proofs.Ytdjhhnolcafkiaa
