/- The document's ParseReport. -/
import Derived.Test.YtdjhhnolcafkiaaRefAskP
import Derived.Test.YtdjhhnolcafkiaaRep
import Derived.Deep.RegionHeld
import Derived.Outline
namespace Go.Proofs.Ytdjhhnolcafkiaa
open Go.RowKit
namespace Pk

theorem tail_list (s : ByteArray) (a : Nat) (h : a ≤ s.size) : (s.extract a s.size).data.toList = s.data.toList.drop a := (drop_eq s a h).symm
theorem tail_byte (s : ByteArray) (a k : Nat) (h : a ≤ s.size) : byteAt (s.extract a s.size) k = byteAt s (a + k) := by
  unfold byteAt
  rw [tail_list s a h, List.getD_eq_getElem?_getD, List.getD_eq_getElem?_getD, List.getElem?_drop]
theorem tail_plen (s : ByteArray) (a : Nat) (h : a + 4 ≤ s.size) : pLen (s.extract a s.size) = 4 + 4 * num ((s.data.toList.drop (a + 2)).take 2) := by
  unfold pLen
  rw [Lib.extract_data, tail_list s a (by omega), List.drop_drop]
theorem tail_tail (s : ByteArray) (a n : Nat) (h : a + n ≤ s.size) : (s.extract a s.size).extract n (s.extract a s.size).size = s.extract (a + n) s.size := by
  apply ba_ext
  rw [← drop_eq _ n (by rw [ByteArray.size_extract]; omega), tail_list s a (by omega), tail_list s _ h, List.drop_drop]

/-- the entries that lie from k to z -/
def entsAt (s : ByteArray) (k z : Nat) : List Int := entsR ((s.data.toList.drop k).take (z - k))
theorem entsAt_end (s : ByteArray) (k z : Nat) (h : z ≤ k) : entsAt s k z = [] := by
  unfold entsAt
  rw [show z - k = 0 by omega, List.take_zero]
  rfl
theorem setOf_bitsF (p b : Nat) : setOf p b = (bitsF b 16).map fun i => (((p + 1 + i) % 65536 : Nat) : Int) := rfl
theorem entsAt_step (s : ByteArray) (k z : Nat) (h : k + 4 ≤ z) (hz : z ≤ s.size) :
    entsAt s k z = ((num ((s.data.toList.drop k).take 2) : Nat) : Int) :: ((bitsF (num ((s.data.toList.drop (k + 2)).take 2)) 16).map fun i => (((num ((s.data.toList.drop k).take 2) + 1 + i) % 65536 : Nat) : Int)) ++ entsAt s (k + 4) z := by
  have hl : s.data.toList.length = s.size := (Lib.size_eq s).symm
  unfold entsAt
  rw [entsR_step _ (by rw [List.length_take, List.length_drop]; omega), List.drop_take, List.drop_take, List.take_take, List.take_take, List.drop_drop, List.drop_drop, Nat.min_eq_left (by omega), Nat.min_eq_left (by omega), show z - k - 4 = z - (k + 4) by omega, entNums, setOf_bitsF]
theorem entsAt_len (s : ByteArray) (k z : Nat) : (entsAt s k z).length ≤ 17 * ((z - k) / 4 + 1) := by
  unfold entsAt
  exact entsR_length _ _ (by rw [List.length_take]; omega)
/-- a part is an asking: what it asks for -/
theorem parts_askAt (s : ByteArray) (a : Nat) (h4 : a + 4 ≤ s.size) (hb : (byteAt s a).toNat = 129) (hk : (byteAt s (a + 1)).toNat = 205) (h : a + (4 + 4 * num ((s.data.toList.drop (a + 2)).take 2)) ≤ s.size) (h16 : 16 ≤ 4 + 4 * num ((s.data.toList.drop (a + 2)).take 2)) :
    partsF (s.extract a s.size).data.toList = (partsF (s.extract (a + (4 + 4 * num ((s.data.toList.drop (a + 2)).take 2))) s.size).data.toList).map ((num ((s.data.toList.drop (a + 4)).take 4), num ((s.data.toList.drop (a + 8)).take 4), entsAt s (a + 12) (a + (4 + 4 * num ((s.data.toList.drop (a + 2)).take 2)))) :: ·) := by
  have hp := tail_plen s a h4
  have hsz : (s.extract a s.size).size = s.size - a := by rw [ByteArray.size_extract]; omega
  have h0 : (byteAt (s.extract a s.size) 0).toNat = 129 := by rw [tail_byte s a 0 (by omega)]; exact hb
  have h1 : (byteAt (s.extract a s.size) 1).toNat = 205 := by rw [tail_byte s a 1 (by omega)]; exact hk
  have e := parts_ask (s.extract a s.size) (by omega) (by rw [h0]) (by rw [hp, hsz]; omega) ⟨by rw [h0], h1⟩ (by rw [hp]; exact h16)
  rw [hp, tail_tail s a _ h] at e
  have hs2 : ((s.extract a s.size).extract 0 (4 + 4 * num ((s.data.toList.drop (a + 2)).take 2))).size = 4 + 4 * num ((s.data.toList.drop (a + 2)).take 2) := by rw [ByteArray.size_extract]; omega
  rw [hs2] at e
  generalize 4 + 4 * num ((s.data.toList.drop (a + 2)).take 2) = n at *
  have e1 : ∀ x y, y ≤ n → (((s.extract a s.size).extract 0 n).extract x y).data.toList = (s.data.toList.drop (a + x)).take (y - x) := fun x y hy => by
    rw [Lib.extract_data, Lib.extract_data, List.drop_zero, Nat.sub_zero, List.drop_take, List.take_take, Nat.min_eq_left (by omega), tail_list s a (by omega), List.drop_drop]
  rw [e1 4 8 (by omega), e1 8 12 (by omega), e1 12 n (Nat.le_refl _)] at e
  rw [e]
  unfold entsAt
  rw [show a + n - (a + 12) = n - 12 by omega]

theorem OwnAsks.below {w w' : World} {base : Nat} {lv : Value} {xs : List Ask1} (h : OwnAsks w base lv xs) (hb : Below w.heap.size w w') : OwnAsks w' base lv xs :=
  ⟨rowA_chg (Chg.ofBelow (T := fun _ => False) hb) h.row (fun _ _ e => e), fun i x hx => ⟨(h.each i x hx).1.below hb, (h.each i x hx).2⟩, h.apart, h.out⟩

/-- the asking that is being read, in its box -/
structure BxA (w0 W : World) (a b : Int) (v : Value) (L : List Int) : Prop where
  bel : Below w0.heap.size w0 W
  siz : w0.heap.size < W.heap.size
  c0 : W.cell? ⟨w0.heap.size, 0, none⟩ = some (.int .i64 a)
  c1 : W.cell? ⟨w0.heap.size, 1, none⟩ = some (.int .i64 b)
  c2 : W.cell? ⟨w0.heap.size, 2, none⟩ = some v
  fz : ∀ o, W.frozen? ⟨w0.heap.size, o, none⟩ = false
  own : OwnInts W (w0.heap.size + 1) v L
theorem BxA.init (w0 : World) (a b : Int) : BxA w0 (w0.alloc (.cells #[.int .i64 a, .int .i64 b, .slice none 0 0] 40)) a b (.slice none 0 0) [] :=
  ⟨(Below.refl _ _).alloc (Nat.le_refl _) _, by simp, cell_new _ _ _ 0, cell_new _ _ _ 1, cell_new _ _ _ 2, fun o => frozen_new _ _ _ o, World.ownsRow_nil _ _ _ _⟩
/-- one more number: the list has grown, and is stored -/
theorem BxA.next {w0 W W2 : World} {a b : Int} {v v' : Value} {L L' : List Int} (h : BxA w0 W a b v L) (hown : OwnInts W2 (w0.heap.size + 1) v' L') (hg : Below (w0.heap.size + 1) W W2) : BxA w0 (W2.setCell ⟨w0.heap.size, 2, none⟩ v') a b v' L' := by
  have hc : ∀ o, W2.cell? ⟨w0.heap.size, o, none⟩ = W.cell? ⟨w0.heap.size, o, none⟩ := fun o => hg.cell (p := ⟨w0.heap.size, o, none⟩) (Nat.lt_succ_self _)
  refine ⟨(h.bel.trans (hg.mono (Nat.le_succ _))).setCell (p := ⟨w0.heap.size, 2, none⟩) (Nat.le_refl _) _, by have := hg.size; have := h.siz; simp; omega, ?_, ?_, World.cell?_setCell_same _ _ _ ((hc 2).trans h.c2), fun o => ?_, hown.setCell (a := ⟨w0.heap.size, 2, none⟩) (Nat.lt_succ_self _) _⟩
  · rw [World.cell?_setCell_other _ _ _ _ (fun e => by injection e with _ e _; omega), hc]; exact h.c0
  · rw [World.cell?_setCell_other _ _ _ _ (fun e => by injection e with _ e _; omega), hc]; exact h.c1
  · rw [World.frozen?_setCell, hg.frozen (p := ⟨w0.heap.size, o, none⟩) (Nat.lt_succ_self _)]; exact h.fz o

end Pk
open Pk

end Go.Proofs.Ytdjhhnolcafkiaa
