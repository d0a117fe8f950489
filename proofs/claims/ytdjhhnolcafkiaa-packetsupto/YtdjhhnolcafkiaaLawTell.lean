/- menderlaw.tellPacket: the program tells a packet as the document does, and leaves its contributors as they were. -/
import Derived.Test.YtdjhhnolcafkiaaRefTell4
import Derived.Test.YtdjhhnolcafkiaaSamePkt
import Derived.Test.YtdjhhnolcafkiaaCopied
namespace Go.Proofs.Ytdjhhnolcafkiaa
open Go.RowKit Pk

set_option maxHeartbeats 8000000 in
theorem lawTell_any (mk ex : Bool) (ty nu ti so pr pa : Int) (cv : Value) (cl : List Int) (en py : ByteArray) (w : World) (hv : IsInts w.heap.size w cv cl) (hl : cl.length ≤ 17592186044000)
    (hen : en.size ≤ 140737488355328) (hpy : py.size ≤ 140737488355328) :
    Calls Try.prog 11 #[.agg #[.bool mk, .int .i64 ty, .int .i64 nu, .int .i64 ti, .int .i64 so, cv, .bool ex, .int .i64 pr, .string en, .string py, .int .i64 pa]] w
      fun e w' => e = .returned (.bool true) ∧ Below w.heap.size w w' := by
  have Hv : Hid (IsInts w.heap.size w cv cl) := hv
  have Hv2 : Hid (∀ o o', IsInts ((w.alloc o).alloc o').heap.size ((w.alloc o).alloc o') cv cl) := fun o o' => ((hv.alloc (Nat.le_refl _) o).alloc (by simp) o').mono (by simp; omega)
  obtain ⟨ao, cap, rfl, _⟩ := hv
  go_enter Try.func11, Try.ntmps11
  go_wp2_with fail
  refine (copied_any _ cl _ (Hv2.out _ _) hl).mono ?_
  rintro e w1 ⟨v', rfl, hown, hb1⟩
  obtain ⟨hc0, hf0⟩ := kept_below hb1 w.heap.size (by simp; omega)
  obtain ⟨hc1, hf1⟩ := kept_below hb1 (w.heap.size + 1) (by simp)
  have Hbl : Hid (Below w.heap.size w w1) := (((Below.refl _ _).alloc (Nat.le_refl _) _).alloc (by simp) _).trans (hb1.mono (by simp; omega))
  have Hsz : Hid (w.heap.size + 2 ≤ w1.heap.size) := by have := hb1.size; simp at this; show _ ≤ _; omega
  have Hown : Hid (OwnInts w1 (w.heap.size + 2) v' cl) := hown.mono (by simp)
  obtain ⟨a1, c1, hv1⟩ := hown.shape
  subst hv1
  clear hb1 hown
  go_wp2_with fail
  have Hown2 : Hid (OwnInts (w1.setCell ⟨w.heap.size + 1, 5, none⟩ (.slice a1 cl.length c1)) (w.heap.size + 2) (.slice a1 cl.length c1) cl) := Hown.out.setCell (by simp) _
  have Hbl2 : Hid (Below w.heap.size w (w1.setCell ⟨w.heap.size + 1, 5, none⟩ (.slice a1 cl.length c1))) := Hbl.out.setCell (by simp) _
  have Hk : Hid (∀ o, (w1.setCell ⟨w.heap.size + 1, 5, none⟩ (.slice a1 cl.length c1)).cell? ⟨w.heap.size, o, none⟩ = w1.cell? ⟨w.heap.size, o, none⟩) := fun o => World.cell?_setCell_other _ _ _ _ (by simp)
  refine (tellPacket_any mk ex ty nu ti so pr pa _ cl en py _ _ (Nat.le_refl _) Hown2.out.isInts (by omega) hen hpy).mono ?_
  rintro e w2 ⟨rfl, hb2⟩
  have hlt0 : w.heap.size < (w1.setCell ⟨w.heap.size + 1, 5, none⟩ (.slice a1 cl.length c1)).heap.size := by have := Hsz.out; simp; omega
  have hlt1 : w.heap.size + 1 < (w1.setCell ⟨w.heap.size + 1, 5, none⟩ (.slice a1 cl.length c1)).heap.size := by have := Hsz.out; simp; omega
  obtain ⟨hd0, _⟩ := kept_below hb2 w.heap.size hlt0
  obtain ⟨hd1, _⟩ := kept_below hb2 (w.heap.size + 1) hlt1
  have he0 : ∀ o, w2.cell? ⟨w.heap.size, o, none⟩ = _ := fun o => ((hd0 o).trans (Hk.out o)).trans (hc0 o)
  have Hown3 : Hid (OwnInts w2 (w.heap.size + 2) (.slice a1 cl.length c1) cl) := Hown2.out.below hb2
  have Hbl3 : Hid (Below w.heap.size w w2) := Hbl2.out.trans (hb2.mono (by omega))
  have Hsz3 : Hid (w.heap.size + 2 ≤ w2.heap.size) := by have := hb2.size; show _ ≤ _; omega
  have y0 := hd1 0
  have y1 := hd1 1
  have y2 := hd1 2
  have y3 := hd1 3
  have y4 := hd1 4
  have y5 := hd1 5
  have y6 := hd1 6
  have y7 := hd1 7
  have y8 := hd1 8
  have y9 := hd1 9
  have y10 := hd1 10
  simp [go_sem, hc1] at y0 y1 y2 y3 y4 y5 y6 y7 y8 y9 y10
  clear hb2 hlt0 hlt1 hd0 hd1 hc0 hc1 hf0 hf1 Hown Hown2 Hbl Hbl2 Hsz Hk
  go_wp2_with fail
  refine (refTell_any mk ex ty nu ti so pr pa _ cl en py _ w.heap.size (by have := Hsz3.out; omega) (Hv.out.carry Hbl3.out) (by omega) hen hpy).mono ?_
  rintro e w3 ⟨rfl, hb3⟩
  obtain ⟨k0, _⟩ := kept_below hb3 w.heap.size (by have := Hsz3.out; omega)
  obtain ⟨k1, _⟩ := kept_below hb3 (w.heap.size + 1) (by have := Hsz3.out; omega)
  have g0 : ∀ o, w3.cell? ⟨w.heap.size, o, none⟩ = _ := fun o => (k0 o).trans (he0 o)
  have z0 := (k1 0).trans y0
  have z1 := (k1 1).trans y1
  have z2 := (k1 2).trans y2
  have z3 := (k1 3).trans y3
  have z4 := (k1 4).trans y4
  have z5 := (k1 5).trans y5
  have z6 := (k1 6).trans y6
  have z7 := (k1 7).trans y7
  have z8 := (k1 8).trans y8
  have z9 := (k1 9).trans y9
  have z10 := (k1 10).trans y10
  have Hbl4 : Hid (Below w.heap.size w w3) := Hbl3.out.trans (hb3.mono (by have := Hsz3.out; omega))
  have Hown4 : Hid (OwnInts w3 (w.heap.size + 2) (.slice a1 cl.length c1) cl) := Hown3.out.below hb3
  clear k0 k1 y0 y1 y2 y3 y4 y5 y6 y7 y8 y9 y10 he0 hb3 Hbl3 Hown3
  go_wp2_with fail
  refine (samePacket_any mk ex ty nu ti so pr pa _ _ cl en py _ Hown4.out.isInts ((Hv.out.carry Hbl4.out).mono Hbl4.out.size) (by omega)).mono ?_
  rintro e w4 ⟨rfl, hb4⟩
  have Hbl5 : Hid (Below w.heap.size w w4) := Hbl4.out.trans (hb4.mono Hbl4.out.size)
  clear hb4 z0 z1 z2 z3 z4 z5 z6 z7 z8 z9 z10 g0
  generalize (tellR mk ex ty nu ti so pr pa cl en py).1 = rs at *
  generalize (tellR mk ex ty nu ti so pr pa cl en py).2 = re at *
  go_wp2_with fail
  refine (errNum_any _ _).mono ?_
  rintro e w5 ⟨rfl, rfl⟩
  go_wp2
  go_ret
  exact ⟨rfl, Hbl5.out⟩

end Go.Proofs.Ytdjhhnolcafkiaa
