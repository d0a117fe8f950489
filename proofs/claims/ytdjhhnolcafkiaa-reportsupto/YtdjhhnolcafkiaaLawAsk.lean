/- menderlaw.tellAsking: the program tells an asking as the document does, and leaves its numbers as they were. -/
import Derived.Test.YtdjhhnolcafkiaaRefAsk
import Derived.Test.YtdjhhnolcafkiaaSameNums
import Derived.Test.YtdjhhnolcafkiaaCopied
namespace Go.Proofs.Ytdjhhnolcafkiaa
open Go.RowKit Pk
namespace Pk
theorem kept2 {B : Nat} {w w' : World} (h : Below B w w') (b : Nat) (hb : b < B) : (∀ o, w'.cell? ⟨b, o, none⟩ = w.cell? ⟨b, o, none⟩) ∧ ∀ o, w'.frozen? ⟨b, o, none⟩ = w.frozen? ⟨b, o, none⟩ :=
  ⟨fun o => h.cell (p := ⟨b, o, none⟩) hb, fun o => h.frozen (p := ⟨b, o, none⟩) hb⟩
end Pk

set_option maxHeartbeats 8000000 in
theorem lawAsk_any (se so : Int) (nv : Value) (l : List Int) (w : World) (hv : IsInts w.heap.size w nv l) (hl : l.length ≤ 17592186044000) :
    Calls Try.prog 14 #[.agg #[.int .i64 se, .int .i64 so, nv]] w fun e w' => e = .returned (.bool true) ∧ Below w.heap.size w w' := by
  have Hv : Hid (IsInts w.heap.size w nv l) := hv
  have Hv2 : Hid (∀ o o', IsInts ((w.alloc o).alloc o').heap.size ((w.alloc o).alloc o') nv l) := fun o o' => ((hv.alloc (Nat.le_refl _) o).alloc (by simp) o').mono (by simp; omega)
  obtain ⟨ao, cap, rfl, _⟩ := hv
  go_enter Try.func14, Try.ntmps14
  go_wp2_with fail
  refine (copied_any _ l _ (Hv2.out _ _) hl).mono ?_
  rintro e w1 ⟨v', rfl, hown, hb1⟩
  obtain ⟨hc0, hf0⟩ := kept2 hb1 w.heap.size (by simp; omega)
  obtain ⟨hc1, hf1⟩ := kept2 hb1 (w.heap.size + 1) (by simp)
  have x0 : w1.cell? ⟨w.heap.size, 0, none⟩ = some (.int .i64 se) := (hc0 0).trans ((World.cell?_alloc_lt _ _ _ (by simp)).trans (cell_new _ _ _ 0))
  have x1 : w1.cell? ⟨w.heap.size, 1, none⟩ = some (.int .i64 so) := (hc0 1).trans ((World.cell?_alloc_lt _ _ _ (by simp)).trans (cell_new _ _ _ 1))
  have x2 : w1.cell? ⟨w.heap.size, 2, none⟩ = some (.slice ao l.length cap) := (hc0 2).trans ((World.cell?_alloc_lt _ _ _ (by simp)).trans (cell_new _ _ _ 2))
  have y0 : w1.cell? ⟨w.heap.size + 1, 0, none⟩ = some (.int .i64 se) := (hc1 0).trans (cell_newAt _ _ _ _ 0 (by simp))
  have y1 : w1.cell? ⟨w.heap.size + 1, 1, none⟩ = some (.int .i64 so) := (hc1 1).trans (cell_newAt _ _ _ _ 1 (by simp))
  have y2 : w1.cell? ⟨w.heap.size + 1, 2, none⟩ = some (.slice ao l.length cap) := (hc1 2).trans (cell_newAt _ _ _ _ 2 (by simp))
  have yf : ∀ o, w1.frozen? ⟨w.heap.size + 1, o, none⟩ = false := fun o => (hf1 o).trans (frozen_newAt _ _ _ _ o (by simp))
  have Hbl : Hid (Below w.heap.size w w1) := (((Below.refl _ _).alloc (Nat.le_refl _) _).alloc (by simp) _).trans (hb1.mono (by simp; omega))
  have Hsz : Hid (w.heap.size + 2 ≤ w1.heap.size) := by have := hb1.size; simp at this; show _ ≤ _; omega
  have Hown : Hid (OwnInts w1 (w.heap.size + 2) v' l) := hown.mono (by simp)
  obtain ⟨a1, c1, hv1⟩ := hown.shape
  subst hv1
  clear hb1 hown hc0 hf0 hc1 hf1
  go_wp2_with fail
  have Hown2 : Hid (OwnInts (w1.setCell ⟨w.heap.size + 1, 2, none⟩ (.slice a1 l.length c1)) (w.heap.size + 2) (.slice a1 l.length c1) l) := Hown.out.setCell (by simp) _
  have Hbl2 : Hid (Below w.heap.size w (w1.setCell ⟨w.heap.size + 1, 2, none⟩ (.slice a1 l.length c1))) := Hbl.out.setCell (by simp) _
  have k : ∀ o u, w1.cell? ⟨w.heap.size, o, none⟩ = some u → (w1.setCell ⟨w.heap.size + 1, 2, none⟩ (.slice a1 l.length c1)).cell? ⟨w.heap.size, o, none⟩ = some u := fun o u hu => (World.cell?_setCell_other _ _ _ _ (by simp)).trans hu
  have k2 : (w1.setCell ⟨w.heap.size + 1, 2, none⟩ (.slice a1 l.length c1)).cell? ⟨w.heap.size + 1, 2, none⟩ = some (.slice a1 l.length c1) := World.cell?_setCell_same _ _ _ y2
  refine (tellAsking_any se so _ l _ Hown2.out.isInts (by omega)).mono ?_
  rintro e w2 ⟨rfl, hb2⟩
  have hlt0 : w.heap.size < (w1.setCell ⟨w.heap.size + 1, 2, none⟩ (.slice a1 l.length c1)).heap.size := by have := Hsz.out; simp; omega
  have hlt1 : w.heap.size + 1 < (w1.setCell ⟨w.heap.size + 1, 2, none⟩ (.slice a1 l.length c1)).heap.size := by have := Hsz.out; simp; omega
  obtain ⟨hd0, _⟩ := kept2 hb2 w.heap.size hlt0
  obtain ⟨hd1, _⟩ := kept2 hb2 (w.heap.size + 1) hlt1
  have q0 := (hd0 0).trans (k 0 _ x0)
  have q1 := (hd0 1).trans (k 1 _ x1)
  have q2 := (hd0 2).trans (k 2 _ x2)
  have p2 := (hd1 2).trans k2
  have Hown3 : Hid (OwnInts w2 (w.heap.size + 2) (.slice a1 l.length c1) l) := Hown2.out.below hb2
  have Hbl3 : Hid (Below w.heap.size w w2) := Hbl2.out.trans (hb2.mono (by omega))
  have Hsz3 : Hid (w.heap.size + 2 ≤ w2.heap.size) := by have := hb2.size; show _ ≤ _; omega
  clear hb2 hlt0 hlt1 hd0 hd1 k k2 x0 x1 x2 y0 y1 y2 yf Hown Hown2 Hbl Hbl2 Hsz
  go_wp2_with fail
  refine (refAsk_any se so _ l _ ((Hv.out.carry Hbl3.out).mono Hbl3.out.size) (by omega)).mono ?_
  rintro e w3 ⟨rfl, hb3⟩
  obtain ⟨k0, _⟩ := kept2 hb3 w.heap.size (by have := Hsz3.out; omega)
  obtain ⟨k1, _⟩ := kept2 hb3 (w.heap.size + 1) (by have := Hsz3.out; omega)
  have z2 := (k0 2).trans q2
  have u2 := (k1 2).trans p2
  have Hbl4 : Hid (Below w.heap.size w w3) := Hbl3.out.trans (hb3.mono (by have := Hsz3.out; omega))
  have Hown4 : Hid (OwnInts w3 (w.heap.size + 2) (.slice a1 l.length c1) l) := Hown3.out.below hb3
  clear k0 k1 q0 q1 q2 p2 hb3 Hbl3 Hown3
  go_wp2_with fail
  refine (sameNumbers_any w3.heap.size _ _ l l _ Hown4.out.isInts ((Hv.out.carry Hbl4.out).mono Hbl4.out.size) (by omega) (by omega)).mono ?_
  rintro e w4 ⟨rfl, n4, rfl⟩
  rw [decide_eq_true rfl]
  have Hbl5 : Hid (Below w.heap.size w (w3.drewN n4)) := below_drewN Hbl4.out _
  clear z2 u2
  generalize (askR se so l).1 = rs at *
  generalize (askR se so l).2 = re at *
  go_wp2_with fail
  refine (errNum_any _ _).mono ?_
  rintro e w5 ⟨rfl, rfl⟩
  go_wp2
  go_ret
  exact ⟨rfl, Hbl5.out⟩

end Go.Proofs.Ytdjhhnolcafkiaa
