/- menderlaw.Packets: the walk. -/
import Derived.Test.YtdjhhnolcafkiaaLawParse
import Derived.Test.YtdjhhnolcafkiaaLawTell
namespace Go.Proofs.Ytdjhhnolcafkiaa
open Go.RowKit
namespace Pk

/-- a packet that came in lies at a place -/
structure At (W : World) (b o : Nat) (mk ex : Bool) (ty nu ti so pr pa : Int) (v : Value) (en py : ByteArray) : Prop where
  x0 : W.cell? ⟨b, o, none⟩ = some (.bool mk)
  x1 : W.cell? ⟨b, o + 1, none⟩ = some (.int .i64 ty)
  x2 : W.cell? ⟨b, o + 2, none⟩ = some (.int .i64 nu)
  x3 : W.cell? ⟨b, o + 3, none⟩ = some (.int .i64 ti)
  x4 : W.cell? ⟨b, o + 4, none⟩ = some (.int .i64 so)
  x5 : W.cell? ⟨b, o + 5, none⟩ = some v
  x6 : W.cell? ⟨b, o + 6, none⟩ = some (.bool ex)
  x7 : W.cell? ⟨b, o + 7, none⟩ = some (.int .i64 pr)
  x8 : W.cell? ⟨b, o + 8, none⟩ = some (.string en)
  x9 : W.cell? ⟨b, o + 9, none⟩ = some (.string py)
  x10 : W.cell? ⟨b, o + 10, none⟩ = some (.int .i64 pa)

theorem At.below {B : Nat} {W W' : World} {b o : Nat} {mk ex : Bool} {ty nu ti so pr pa : Int} {v : Value} {en py : ByteArray} (h : At W b o mk ex ty nu ti so pr pa v en py) (hb : Below B W W') (hB : b < B) : At W' b o mk ex ty nu ti so pr pa v en py :=
  ⟨(hb.cell (p := ⟨b, o, none⟩) hB).trans h.x0, (hb.cell (p := ⟨b, o + 1, none⟩) hB).trans h.x1, (hb.cell (p := ⟨b, o + 2, none⟩) hB).trans h.x2, (hb.cell (p := ⟨b, o + 3, none⟩) hB).trans h.x3, (hb.cell (p := ⟨b, o + 4, none⟩) hB).trans h.x4, (hb.cell (p := ⟨b, o + 5, none⟩) hB).trans h.x5, (hb.cell (p := ⟨b, o + 6, none⟩) hB).trans h.x6, (hb.cell (p := ⟨b, o + 7, none⟩) hB).trans h.x7, (hb.cell (p := ⟨b, o + 8, none⟩) hB).trans h.x8, (hb.cell (p := ⟨b, o + 9, none⟩) hB).trans h.x9, (hb.cell (p := ⟨b, o + 10, none⟩) hB).trans h.x10⟩

theorem bk_new (w : World) (t : TypeId) : Bk (w.alloc (.cells #[.slice none 0 0, .slice none 0 0, .slice none 0 0, .slice none 0 0, .slice none 0 0, .slice none 0 0, .int .i64 0] t)) w.heap.size (fun _ => False) (.slice none 0 0) (.slice none 0 0) [] [] 0 := by
  refine ⟨?_, ?_, ?_, ?_, ?_, ?_, ?_, ?_, fun e => e, World.ownsRow_nil _ _ _ _, World.ownsRow_nil _ _ _ _, fun b hb => (by cases hb), fun b hb => (by cases hb), rfl, fun i u hu => (by simp at hu)⟩
  all_goals first | (intro o; simp [go_sem]; done) | (simp [go_sem]; done) | go_simp

end Pk
open Pk

set_option maxRecDepth 20000 in
set_option maxHeartbeats 8000000 in
theorem packets_walk (ta pa : Option Addr) (tn tc pn pc : Nat) (w : World)
    (hT : ∀ i, i < tn → ∃ b off s, ta = some ⟨b, off, none⟩ ∧ b < w.heap.size ∧ w.cell? ⟨b, off + i, none⟩ = some (.string s) ∧ s.size ≤ 1048576)
    (hP : ∀ i, i < pn → ∃ b off, pa = some ⟨b, off, none⟩ ∧ b < w.heap.size ∧ ∃ mk ex ty nu ti so pr pd cv cl en py, At w b (off + i * 11) mk ex ty nu ti so pr pd cv en py ∧ IsInts w.heap.size w cv cl ∧ cl.length ≤ 1048576 ∧ en.size ≤ 1048576 ∧ py.size ≤ 1048576)
    (htn : tn ≤ 1048576) (hpn : pn ≤ 1048576) :
    Calls Try.prog 3 #[.slice ta tn tc, .slice pa pn pc] w fun e w' => e = .returned (.bool true) ∧ Below w.heap.size w w' := by
  have HT : Hid (∀ i, i < tn → ∃ b off s, ta = some ⟨b, off, none⟩ ∧ b < w.heap.size ∧ w.cell? ⟨b, off + i, none⟩ = some (.string s) ∧ s.size ≤ 1048576) := hT
  have HP : Hid (∀ i, i < pn → ∃ b off, pa = some ⟨b, off, none⟩ ∧ b < w.heap.size ∧ ∃ mk ex ty nu ti so pr pd cv cl en py, At w b (off + i * 11) mk ex ty nu ti so pr pd cv en py ∧ IsInts w.heap.size w cv cl ∧ cl.length ≤ 1048576 ∧ en.size ≤ 1048576 ∧ py.size ≤ 1048576) := hP
  clear hT hP
  go_enter Try.func3, Try.ntmps3
  go_wp2_with fail
  have HN : Hid (∀ t, Bk (w.alloc (.cells #[.slice none 0 0, .slice none 0 0, .slice none 0 0, .slice none 0 0, .slice none 0 0, .slice none 0 0, .int .i64 0] t)) w.heap.size (fun _ => False) (.slice none 0 0) (.slice none 0 0) [] [] 0) := bk_new w
  refine (lawTell_any false false 96 1 2 3 0 0 _ [] _ _ _ ⟨none, 0, rfl, fun j hj => absurd hj (by simp)⟩ (by simp) (by decide) (by decide)).mono ?_
  rintro e w1 ⟨rfl, hb1⟩
  have HB1 : Hid (Bk w1 w.heap.size (fun _ => False) (.slice none 0 0) (.slice none 0 0) [] [] 0) := (HN.out _).chg (T := fun _ => False) (Chg.ofBelow hb1) (fun _ h => h)
  have Hw1 : Hid (Below w.heap.size w w1) := ((Below.refl _ _).alloc (Nat.le_refl _) _).trans (hb1.mono (by simp))
  clear hb1 HN
  go_wp2
  go_loopw [7] (fun s7 wr => ∃ (i : Nat) (nv mv : Value) (NL : List Value) (ML : List Int) (nx : Int), i ≤ tn ∧ s7 = .int .i64 i ∧ NL.length = 8 * i ∧ nx = 2 * i ∧ Bk wr w.heap.size (fun _ => False) nv mv NL ML nx ∧ Below w.heap.size w wr) (fun s7 _ => tn - (intOf s7).toNat)
  case atStart => exact ⟨0, _, _, _, _, _, Nat.zero_le _, rfl, rfl, rfl, HB1.out, Hw1.out⟩
  case round =>
    obtain ⟨i, nv, mv, NL, ML, nx, hi, rfl, hNL, hnx, hBk, hbel⟩ := hrel
    have HBk : Hid (Bk wr w.heap.size (fun _ => False) nv mv NL ML nx) := hBk
    have Hbel : Hid (Below w.heap.size w wr) := hbel
    have Hnx : Hid (nx = 2 * i) := hnx
    have HNL : Hid (NL.length = 8 * i) := hNL
    clear hBk hnx hNL
    by_cases hlt : i < tn
    · have hlt' : (i : Int) < tn := by omega
      obtain ⟨b, off, s, rfl, hb, hc, hs⟩ := HT.out i hlt
      have hcr : wr.cell? ⟨b, off + i, none⟩ = some (.string s) := (hbel.cell (p := ⟨b, off + i, none⟩) hb).trans hc
      clear hbel hc
      go_wp2_with fail
      refine (lawParse_any _ nv mv NL ML nx s _ HBk.out (by unfold maxLen; omega) (by rw [HNL.out]; omega) (by rw [Hnx.out]; omega) (by rw [Hnx.out]; omega)).mono ?_
      rintro e w2 ⟨rfl, hC, nv2, mv2, NL2, ML2, hB2, hl2⟩
      have Hbel2 : Hid (Below w.heap.size w w2) := Hbel.out.trans (hC.below Hbel.out.size (fun x hx => hx))
      have HB2 : Hid (Bk w2 w.heap.size (fun _ => False) nv2 mv2 NL2 ML2 (nx + 1 + 1)) := hB2
      have Hl2 : Hid (NL2.length = 8 * (i + 1)) := by show _ = _; rw [hl2, HNL.out]; omega
      clear hC hB2 hl2 hcr
      go_wp2_with fail
      refine (looks_any _ _ nv2 mv2 NL2 ML2 _ _ HB2.out (by rw [Hl2.out]; omega)).mono ?_
      rintro e w3 ⟨rfl, n3, rfl⟩
      have HB3 : Hid (Bk (w2.drewN n3) w.heap.size (fun _ => False) nv2 mv2 NL2 ML2 (nx + 1 + 1)) := HB2.out.chg (T := fun _ => False) (Chg.ofBelow (below_drewN (Below.refl _ _) _)) (fun _ h => h)
      have Hbel3 : Hid (Below w.heap.size w (w2.drewN n3)) := below_drewN Hbel2.out _
      go_wp2
      go_roundw
      case rel => exact ⟨i + 1, nv2, mv2, NL2, ML2, _, by omega, by go_num, Hl2.out, by rw [Hnx.out]; omega, HB3.out, Hbel3.out⟩
      case measure => simp [intOf]; omega
    · have hlt' : ¬ (i : Int) < tn := by omega
      clear hbel
      go_wp2
      go_loopw [10] (fun s10 wr => ∃ (i : Nat), i ≤ pn ∧ s10 = .int .i64 i ∧ Below w.heap.size w wr) (fun s10 _ => pn - (intOf s10).toNat)
      case atStart => exact ⟨0, Nat.zero_le _, rfl, Hbel.out⟩
      case round =>
        obtain ⟨j, hj, rfl, hbel⟩ := hrel
        have Hbj : Hid (Below w.heap.size w _) := hbel
        by_cases hjl : j < pn
        · have hjl' : (j : Int) < pn := by omega
          obtain ⟨b, off, rfl, hb, mk, ex, ty, nu, ti, so, pr, pd, cv, cl, en, py, hA, hI, hl, he, hp⟩ := HP.out j hjl
          obtain ⟨x0, x1, x2, x3, x4, x5, x6, x7, x8, x9, x10⟩ := hA.below hbel hb
          have HI : Hid (IsInts _ _ cv cl) := (hI.carry hbel).mono hbel.size
          clear hA hI hbel
          go_wp2_with fail
          refine (lawTell_any mk ex ty nu ti so pr pd cv cl en py _ HI.out (by omega) (by omega) (by omega)).mono ?_
          rintro e w4 ⟨rfl, hb4⟩
          have Hb4 : Hid (Below w.heap.size w w4) := Hbj.out.trans (hb4.mono Hbj.out.size)
          clear hb4 x0 x1 x2 x3 x4 x5 x6 x7 x8 x9 x10
          go_wp2
          go_roundw
          case rel => exact ⟨j + 1, by omega, by go_num, Hb4.out⟩
          case measure => simp [intOf]; omega
        · have hjl' : ¬ (j : Int) < pn := by omega
          clear hbel
          go_wp2
          go_ret
          exact ⟨rfl, Hbj.out⟩

end Go.Proofs.Ytdjhhnolcafkiaa
